import PyProof.Rows.All
import HandS.ForMost
import HandS.IsInst
import HandS.Wide
import HandS.WideMore
import HandS.TupAny
import HandS.Style
import HandS.Deep
import HandS.Flow
import HandS.SetKeys
import HandS.Steps
import HandS.ForExc
import HandS.HeadHook1
import HandS.Lambda
import PyProof.EqKinds
import HandS.Strs
import KE.KEqNest
import PyProof.ReprRoads
import PyProof.ReprReads
import HandS.SetFor
import HandS.Ends
import HandS.TupLe
import HandS.HeadEnd
import HandS.HeadHook2
import HandS.HeadNt
import HandS.Head0
import HandS.Head1
import HandS.Head2
import HandS.Gcd
import HandS.Head3
import HandS.ExcIs
import HandS.HeadHook4
import HandS.FStr
import HandS.Star
import HandS.RaiseMore
import KE.KIndexOf
import HandS.Nested
import HandS.Zip
import PySem.Challenge.RW_askround_k04_whole_values_written
set_option Elab.async false
set_option linter.all false
set_option maxRecDepth 100000
set_option maxHeartbeats 4000000
/-! ### A layer of plain data: what a body does, told as a partial function over trees of data -/
namespace Dl
open PySem PySem.Spec PyProof.Rows L2

def kD : Key → PyData
  | .inl i => .int i
  | .inr x => .str x

/-- no key of a dict: no whole number in it -/
def keyless (ds : List PyData) : Bool := ds.all fun d => match d with
  | .int _ => false
  | _ => true
/-- the entries of a dict whose keys are tuples; ahead of them stands (.none, .none) -/
def kvD (ds : List (List Key × PyData)) : List (PyData × PyData) := ds.map fun p => (.tuple (p.1.map kD), p.2)
/-- an exception of the class of that name (a class of the program's own, without fields), as a tree -/
def excD (c : Str) : PyData := .dict [(.none, .str c)]
def ExZ (C a : Addr) : HO := .ext fun h => ∃ oe : Obj, h.get? a = some oe ∧ Zc (.ref C) none oe ∧ ∃ vs : Array Value, oe.data = .fields vs
/-- a tuple, known to its object, which has no dict -/
def TupF (H : Hp) (a : Addr) (xs : List V) : Prop := ∃ o : Obj, H a = some (.frz o (.tup xs)) ∧ o.dict = none
mutual
/-- the value v stands for the tree d; nothing of it may be written (mu: what may be) -/
inductive Dt (K : PySem.W.Frag) (mu : Addr → Prop) (H : Hp) : V → PyData → Prop
  | non : Dt K mu H .non .none
  | bl (b : Bool) : Dt K mu H (.bl b) (.bool b)
  | int (i : Int) : Dt K mu H (.int i) (.int i)
  | str (x : Str) : Dt K mu H (.str x) (.str x)
  | lst {a : Addr} {xs : List V} {ds : List PyData} : Rd H a (.lst xs) → ¬ mu a → DtAll K mu H xs ds → Dt K mu H (.ref a) (.list ds)
  | scr {a : Addr} {xs : List V} {ds : List PyData} : (Rd H a (.lst xs) ∧ ¬ mu a) ∨ (∀ H', SqL K H' a xs) → DtAll K mu H xs ds → Dt K mu H (.ref a) (.dict [(.none, .list ds)])
  | tup {a : Addr} {xs : List V} {ds : List PyData} : TupF H a xs → ¬ mu a → DtAll K mu H xs ds → Dt K mu H (.ref a) (.tuple ds)
  | tupK {a : Addr} {xs : List V} {ds : List PyData} : (∀ H', SqT K H' a xs) → (keyless ds = true ∧ ∃ o, K.lookup a = some o ∧ o.cls = .type "tuple" ∧ o.dict = none) → DtAll K mu H xs ds → Dt K mu H (.ref a) (.tuple ds)
  | dct {a : Addr} {kvs : List (Key × V)} {ds : List (PyData × PyData)} : H a = some (.dK kvs) → ¬ mu a → DtKv K mu H kvs ds → Dt K mu H (.ref a) (.dict ds)
  | dcT {a : Addr} {kvs : List (List Key × V)} {ds : List (List Key × PyData)} : H a = some (.dT kvs) → ¬ mu a → DtKT K mu H kvs ds → Dt K mu H (.ref a) (.dict ((.none, .none) :: kvD ds))
  | exc {a : Addr} {c : Str} : H a = some (ExZ (He.ga K c) a) → ¬ mu a → Dt K mu H (.ref a) (.dict [(.none, .str c)])
inductive DtAll (K : PySem.W.Frag) (mu : Addr → Prop) (H : Hp) : List V → List PyData → Prop
  | nil : DtAll K mu H [] []
  | cons {v : V} {vs : List V} {d : PyData} {ds : List PyData} : Dt K mu H v d → DtAll K mu H vs ds → DtAll K mu H (v :: vs) (d :: ds)
inductive DtKv (K : PySem.W.Frag) (mu : Addr → Prop) (H : Hp) : List (Key × V) → List (PyData × PyData) → Prop
  | nil : DtKv K mu H [] []
  | cons {k : Key} {v : V} {vs : List (Key × V)} {d : PyData} {ds : List (PyData × PyData)} : Dt K mu H v d → DtKv K mu H vs ds → DtKv K mu H ((k, v) :: vs) ((kD k, d) :: ds)
inductive DtKT (K : PySem.W.Frag) (mu : Addr → Prop) (H : Hp) : List (List Key × V) → List (List Key × PyData) → Prop
  | nil : DtKT K mu H [] []
  | cons {k : List Key} {v : V} {vs : List (List Key × V)} {d : PyData} {ds : List (List Key × PyData)} : Dt K mu H v d → DtKT K mu H vs ds → DtKT K mu H ((k, v) :: vs) ((k, d) :: ds)
end

theorem TupF.rd {H : Hp} {a : Addr} {xs : List V} (h : TupF H a xs) : Rd H a (.tup xs) := let ⟨o, e, _⟩ := h; .inr ⟨o, e⟩
/-- what stood and could not be written stands, and can not be written -/
def Kp (mu : Addr → Prop) (H : Hp) (mu' : Addr → Prop) (H' : Hp) : Prop := ∀ a o, H a = some o → ¬ mu a → H' a = some o ∧ ¬ mu' a
theorem Kp.refl (mu : Addr → Prop) (H : Hp) : Kp mu H mu H := fun _ _ h n => ⟨h, n⟩
theorem Kp.trans {m1 m2 m3 : Addr → Prop} {H1 H2 H3 : Hp} (a : Kp m1 H1 m2 H2) (b : Kp m2 H2 m3 H3) : Kp m1 H1 m3 H3 := fun x o h n =>
  let ⟨h2, n2⟩ := a x o h n
  b x o h2 n2
theorem Kp.rd {m1 m2 : Addr → Prop} {H1 H2 : Hp} (k : Kp m1 H1 m2 H2) {a : Addr} {u : HO} (h : Rd H1 a u) (n : ¬ m1 a) : Rd H2 a u ∧ ¬ m2 a := by
  rcases h with h | ⟨o, h⟩
  · exact ⟨.inl (k a _ h n).1, (k a _ h n).2⟩
  · exact ⟨.inr ⟨o, (k a _ h n).1⟩, (k a _ h n).2⟩

section
variable {K : PySem.W.Frag} {mu mu' : Addr → Prop} {H H' : Hp}
mutual
theorem Dt.mono (k : Kp mu H mu' H') : ∀ {v : V} {d : PyData}, Dt K mu H v d → Dt K mu' H' v d
  | _, _, .non => .non
  | _, _, .bl b => .bl b
  | _, _, .int i => .int i
  | _, _, .str x => .str x
  | _, _, .lst h n t => .lst (k.rd h n).1 (k.rd h n).2 (DtAll.mono k t)
  | _, _, .scr h t => .scr (h.elim (fun z => .inl ⟨(k.rd z.1 z.2).1, (k.rd z.1 z.2).2⟩) .inr) (DtAll.mono k t)
  | _, _, .tup ⟨o, h, z⟩ n t => .tup ⟨o, (k _ _ h n).1, z⟩ (k _ _ h n).2 (DtAll.mono k t)
  | _, _, .tupK h z t => .tupK h z (DtAll.mono k t)
  | _, _, .dcT h n t => .dcT (k _ _ h n).1 (k _ _ h n).2 (DtKT.mono k t)
  | _, _, .dct h n t => .dct (k _ _ h n).1 (k _ _ h n).2 (DtKv.mono k t)
  | _, _, .exc h n => .exc (k _ _ h n).1 (k _ _ h n).2
theorem DtAll.mono (k : Kp mu H mu' H') : ∀ {vs : List V} {ds : List PyData}, DtAll K mu H vs ds → DtAll K mu' H' vs ds
  | _, _, .nil => .nil
  | _, _, .cons h t => .cons (Dt.mono k h) (DtAll.mono k t)
theorem DtKv.mono (k : Kp mu H mu' H') : ∀ {vs : List (Key × V)} {ds : List (PyData × PyData)}, DtKv K mu H vs ds → DtKv K mu' H' vs ds
  | _, _, .nil => .nil
  | _, _, .cons h t => .cons (Dt.mono k h) (DtKv.mono k t)
theorem DtKT.mono (k : Kp mu H mu' H') : ∀ {vs : List (List Key × V)} {ds : List (List Key × PyData)}, DtKT K mu H vs ds → DtKT K mu' H' vs ds
  | _, _, .nil => .nil
  | _, _, .cons h t => .cons (Dt.mono k h) (DtKT.mono k t)
end
theorem DtAll.len : ∀ {vs : List V} {ds : List PyData}, DtAll K mu H vs ds → vs.length = ds.length
  | _, _, .nil => rfl
  | _, _, .cons _ t => by rw [List.length_cons, List.length_cons, DtAll.len t]
theorem DtAll.get : ∀ {vs : List V} {ds : List PyData} {i : Nat} {d : PyData}, DtAll K mu H vs ds → ds[i]? = some d → ∃ v, vs[i]? = some v ∧ Dt K mu H v d
  | _, _, _, _, .nil, e => by simp at e
  | _, _, 0, _, .cons h _, e => by simp at e; subst e; exact ⟨_, rfl, h⟩
  | _, _, i + 1, _, .cons _ t, e => by
    obtain ⟨v, h1, h2⟩ := DtAll.get (i := i) t (by simpa using e)
    exact ⟨v, by simpa using h1, h2⟩
theorem DtAll.getv : ∀ {vs : List V} {ds : List PyData} {i : Nat} {v : V}, DtAll K mu H vs ds → vs[i]? = some v → ∃ d, ds[i]? = some d ∧ Dt K mu H v d
  | _, _, _, _, .nil, e => by simp at e
  | _, _, 0, _, .cons h _, e => by simp at e; subst e; exact ⟨_, rfl, h⟩
  | _, _, i + 1, _, .cons _ t, e => by
    obtain ⟨v, h1, h2⟩ := DtAll.getv (i := i) t (by simpa using e)
    exact ⟨v, by simpa using h1, h2⟩
theorem DtAll.append : ∀ {vs ws : List V} {ds es : List PyData}, DtAll K mu H vs ds → DtAll K mu H ws es → DtAll K mu H (vs ++ ws) (ds ++ es)
  | _, _, _, _, .nil, h => h
  | _, _, _, _, .cons h t, k => .cons h (DtAll.append t k)
theorem DtAll.take : ∀ {vs : List V} {ds : List PyData} (n : Nat), DtAll K mu H vs ds → DtAll K mu H (vs.take n) (ds.take n)
  | _, _, 0, _ => by simp; exact .nil
  | _, _, n + 1, .nil => .nil
  | _, _, n + 1, .cons h t => .cons h (DtAll.take n t)
theorem DtAll.drop : ∀ {vs : List V} {ds : List PyData} (n : Nat), DtAll K mu H vs ds → DtAll K mu H (vs.drop n) (ds.drop n)
  | _, _, 0, h => h
  | _, _, n + 1, .nil => .nil
  | _, _, n + 1, .cons h t => DtAll.drop n t
theorem DtAll.rev : ∀ {vs : List V} {ds : List PyData}, DtAll K mu H vs ds → DtAll K mu H vs.reverse ds.reverse
  | _, _, .nil => .nil
  | _, _, .cons h t => by
    rw [List.reverse_cons, List.reverse_cons]
    exact DtAll.append (DtAll.rev t) (.cons h .nil)
theorem DtAll.set {v : V} {d : PyData} (h : Dt K mu H v d) : ∀ {vs : List V} {ds : List PyData} (n : Nat), DtAll K mu H vs ds → DtAll K mu H (vs.set n v) (ds.set n d)
  | _, _, _, .nil => .nil
  | _, _, 0, .cons _ t => .cons h t
  | _, _, n + 1, .cons g t => .cons g (DtAll.set h n t)
theorem Dt.list {v : V} {ds : List PyData} (h : Dt K mu H v (.list ds)) : ∃ a xs, v = .ref a ∧ SqL K H a xs ∧ DtAll K mu H xs ds := by
  cases h with
  | lst h n t => exact ⟨_, _, rfl, .inl h, t⟩
theorem Dt.listR {v : V} {ds : List PyData} (h : Dt K mu H v (.list ds)) : ∃ a xs, v = .ref a ∧ Rd H a (.lst xs) ∧ DtAll K mu H xs ds := by
  cases h with
  | lst h n t => exact ⟨_, _, rfl, h, t⟩
theorem kD_none (k : Key) : kD k ≠ .none := by cases k <;> intro h <;> cases h
/-- the script -/
theorem Dt.script {v : V} {ds : List PyData} (h : Dt K mu H v (.dict [(.none, .list ds)])) : ∃ a xs, v = .ref a ∧ SqL K H a xs ∧ DtAll K mu H xs ds := by
  generalize e : PyData.dict [(.none, .list ds)] = d at h
  cases h with
  | scr h t =>
    cases e
    exact ⟨_, _, rfl, h.elim (fun z => .inl z.1) fun z => z H, t⟩
  | dct h n t =>
    cases e
    generalize e2 : [(PyData.none, PyData.list ds)] = kds at t
    cases t with
    | nil => cases e2
    | @cons k v vs d ds t1 t2 =>
      exact absurd (Prod.mk.inj (List.cons.inj e2).1).1.symm (kD_none k)
  | _ => cases e
/-- a dict that is one -/
def realD : List (PyData × PyData) → Bool
  | (.none, _) :: _ => false
  | _ => true
theorem Dt.real {v : V} {kvs : List (PyData × PyData)} (h : Dt K mu H v (.dict kvs)) (r : realD kvs = true) : ∃ a xs, v = .ref a ∧ H a = some (.dK xs) ∧ DtKv K mu H xs kvs := by
  cases h with
  | scr h t => cases r
  | dct h n t => exact ⟨_, _, rfl, h, t⟩
  | dcT h n t => cases r
  | exc h n => cases r
theorem Dt.tuple {v : V} {ds : List PyData} (h : Dt K mu H v (.tuple ds)) : ∃ a xs, v = .ref a ∧ SqT K H a xs ∧ DtAll K mu H xs ds := by
  cases h with
  | tup h n t => exact ⟨_, _, rfl, .inl h.rd, t⟩
  | tupK h z t => exact ⟨_, _, rfl, h H, t⟩
theorem Dt.inti {v : V} {i : Int} (h : Dt K mu H v (.int i)) : v = .int i := by cases h; rfl
theorem Dt.bool {v : V} {b : Bool} (h : Dt K mu H v (.bool b)) : v = .bl b := by cases h; rfl
theorem Dt.text {v : V} {x : Str} (h : Dt K mu H v (.str x)) : v = .str x := by cases h; rfl
theorem Dt.none_ {v : V} (h : Dt K mu H v .none) : v = .non := by cases h; rfl
theorem DtAll.ints : ∀ {vs : List V} {ns : List Int}, DtAll K mu H vs (ns.map .int) → vs = ns.map V.int
  | _, [], .nil => rfl
  | _, n :: r, .cons h t => by
    have e := h.inti
    have e2 := DtAll.ints t
    subst e e2
    rfl
theorem DtAll.texts : ∀ {vs : List V} {ns : List Str}, DtAll K mu H vs (ns.map .str) → vs = ns.map V.str
  | _, [], .nil => rfl
  | _, n :: r, .cons h t => by
    have e := h.text
    have e2 := DtAll.texts t
    subst e e2
    rfl
theorem DtAll.bools : ∀ {vs : List V} {ns : List Bool}, DtAll K mu H vs (ns.map .bool) → vs = ns.map V.bl
  | _, [], .nil => rfl
  | _, n :: r, .cons h t => by
    have e := h.bool
    have e2 := DtAll.bools t
    subst e e2
    rfl
theorem dtAll_ints : ∀ ns : List Int, DtAll K mu H (ns.map V.int) (ns.map .int)
  | [] => .nil
  | n :: r => .cons (.int n) (dtAll_ints r)
theorem dtAll_texts : ∀ ns : List Str, DtAll K mu H (ns.map V.str) (ns.map .str)
  | [] => .nil
  | n :: r => .cons (.str n) (dtAll_texts r)
theorem dtAll_bools : ∀ ns : List Bool, DtAll K mu H (ns.map V.bl) (ns.map .bool)
  | [] => .nil
  | n :: r => .cons (.bl n) (dtAll_bools r)
end

/-! ### a body's names: data, a list of its own that it fills, the list that was handed in to be changed, nothing -/
/-- what a dict of one's own holds: keys that are tuples; keys that are numbers and texts -/
inductive Ct where
  | kT (ds : List (List Key × PyData)) | kK (ds : List (PyData × PyData))
def CtOk (K : PySem.W.Frag) (mu : Addr → Prop) (H : Hp) (a : Addr) : Ct → Prop
  | .kT ds => ∃ kvs, H a = some (.dT kvs) ∧ DtKT K mu H kvs ds
  | .kK ds => ∃ kvs, H a = some (.dK kvs) ∧ DtKv K mu H kvs ds
theorem CtOk.mono {K : PySem.W.Frag} {mu mu' : Addr → Prop} {H H' : Hp} {a : Addr} {c : Ct} (h : CtOk K mu H a c) (k : Kp mu H mu' H') (s : ∀ o, H a = some o → H' a = some o) : CtOk K mu' H' a c := by
  cases c with
  | kT ds =>
    obtain ⟨kvs, e, t⟩ := h
    exact ⟨kvs, s _ e, t.mono k⟩
  | kK ds =>
    obtain ⟨kvs, e, t⟩ := h
    exact ⟨kvs, s _ e, t.mono k⟩
theorem CtOk.there {K : PySem.W.Frag} {mu : Addr → Prop} {H : Hp} {a : Addr} {c : Ct} (h : CtOk K mu H a c) : ∃ o, H a = some o ∧ ∀ xs, o ≠ .lst xs := by
  cases c with
  | kT ds =>
    obtain ⟨kvs, e, t⟩ := h
    exact ⟨_, e, fun xs z => by cases z⟩
  | kK ds =>
    obtain ⟨kvs, e, t⟩ := h
    exact ⟨_, e, fun xs z => by cases z⟩
inductive SV where
  | dat (d : PyData) | own (ds : List PyData) | pot (i : Nat) (ds : List PyData) | no | tab (i : Nat) (q : Str) | dic (c : Ct) | rf (a : Addr)
abbrev Sl := List SV
/-- what is fixed through a body: the heap at its entry, the address of the list that may be changed -/
structure Par where
  H0 : Hp
  p : List Addr
  m0 : Addr → Prop
  nd : p.Nodup
def Mu (Z : Par) (M : List Addr) : Addr → Prop := fun a => Z.m0 a ∨ a ∈ Z.p ∨ a ∈ M

/-- .. through an expression or a statement: all that stood stands, but the list handed in and the names' own -/
def Kq (Z : Par) (M : List Addr) (H : Hp) (M' : List Addr) (H' : Hp) : Prop := ∀ a o, H a = some o → a ∉ Z.p → a ∉ M → H' a = some o ∧ a ∉ M'
theorem Kq.kp {Z : Par} {M M' : List Addr} {H H' : Hp} (k : Kq Z M H M' H') : Kp (Mu Z M) H (Mu Z M') H' := fun a o h n =>
  let ⟨h1, h2⟩ := k a o h (fun z => n (.inr (.inl z))) (fun z => n (.inr (.inr z)))
  ⟨h1, fun q => q.elim (fun z => n (.inl z)) fun q => q.elim (fun z => n (.inr (.inl z))) h2⟩
theorem Kq.refl (Z : Par) (M : List Addr) (H : Hp) : Kq Z M H M H := fun _ _ h _ n => ⟨h, n⟩
theorem Kq.trans {Z : Par} {M1 M2 M3 : List Addr} {H1 H2 H3 : Hp} (a : Kq Z M1 H1 M2 H2) (b : Kq Z M2 H2 M3 H3) : Kq Z M1 H1 M3 H3 := fun x o h p n =>
  let ⟨h2, n2⟩ := a x o h p n
  b x o h2 p n2
theorem kq_grow {Z : Par} {M : List Addr} {H H' : Hp} (g : ∀ a o, H a = some o → H' a = some o) : Kq Z M H M H' := fun a o e _ n => ⟨g a o e, n⟩

inductive SlAll (K : PySem.W.Frag) (mu : Addr → Prop) (p : List Addr) (H : Hp) : L2.St → Sl → List Addr → Prop
  | nil : SlAll K mu p H [] [] []
  | dat {v : V} {d : PyData} {σ : L2.St} {s : Sl} {M : List Addr} : Dt K mu H v d → SlAll K mu p H σ s M → SlAll K mu p H (some v :: σ) (.dat d :: s) M
  | no {x : Option V} {σ : L2.St} {s : Sl} {M : List Addr} : SlAll K mu p H σ s M → SlAll K mu p H (x :: σ) (.no :: s) M
  | own {a : Addr} {xs : List V} {ds : List PyData} {σ : L2.St} {s : Sl} {M : List Addr} : H a = some (.lst xs) → DtAll K mu H xs ds → a ∉ M → SlAll K mu p H σ s M → SlAll K mu p H (some (.ref a) :: σ) (.own ds :: s) (a :: M)
  | pot {i : Nat} {a : Addr} {xs : List V} {ds : List PyData} {σ : L2.St} {s : Sl} {M : List Addr} : p[i]? = some a → H a = some (.lst xs) → DtAll K mu H xs ds → SlAll K mu p H σ s M → SlAll K mu p H (some (.ref a) :: σ) (.pot i ds :: s) M
  | tab {i : Nat} {x : Option V} {a : Addr} {ps : Array Value} {q : Str} {σ : L2.St} {s : Sl} {M : List Addr} : p[i]? = some a → H a = some (.tbl ps) → TriplesOk ps.toList → (∀ (pos : Pos) (cv : Value), codeAmong pos ps.toList = some cv → ∃ c, cv = .ref c ∧ H c = some (LamX.CodeO c q) ∧ ¬ mu c) → SlAll K mu p H σ s M → SlAll K mu p H (x :: σ) (.tab i q :: s) M
  | rf {a : Addr} {σ : L2.St} {s : Sl} {M : List Addr} : SlAll K mu p H σ s M → SlAll K mu p H (some (.ref a) :: σ) (.rf a :: s) M
  | dic {a : Addr} {c : Ct} {σ : L2.St} {s : Sl} {M : List Addr} : CtOk K mu H a c → a ∉ M → SlAll K mu p H σ s M → SlAll K mu p H (some (.ref a) :: σ) (.dic c :: s) (a :: M)

structure Rel (K : PySem.W.Frag) (Z : Par) (M : List Addr) (σ : L2.St) (H : Hp) (s : Sl) : Prop where
  base : ∀ a o, Z.H0 a = some o → a ∉ Z.p → H a = some o
  fr : ∀ a ∈ M, Z.H0 a = none ∧ a ∉ Z.p ∧ ¬ Z.m0 a ∧ ∃ o, H a = some o
  mz : ∀ a, Z.m0 a → ∃ o, H a = some o
  pt : ∀ a, a ∈ Z.p → ∃ o, H a = some o
  sl : SlAll K (Mu Z M) Z.p H σ s M

section
variable {K : PySem.W.Frag} {mu mu' : Addr → Prop} {H H' : Hp} {p : List Addr} {Z : Par} {M M' : List Addr} {σ : L2.St} {s : Sl}
theorem Rel.muT (r : Rel K Z M σ H s) : ∀ a, Mu Z M a → ∃ o, H a = some o := fun a h => by
  rcases h with h | h | h
  · exact r.mz a h
  · exact r.pt a h
  · exact (r.fr a h).2.2.2
theorem SlAll.grow (g : ∀ a o, H a = some o → H' a = some o) : ∀ {σ : L2.St} {s : Sl} {M : List Addr}, SlAll K mu p H σ s M → SlAll K mu p H' σ s M
  | _, _, _, .nil => .nil
  | _, _, _, .dat h t => .dat (h.mono fun a o e n => ⟨g a o e, n⟩) (SlAll.grow g t)
  | _, _, _, .no t => .no (SlAll.grow g t)
  | _, _, _, .rf t => .rf (SlAll.grow g t)
  | _, _, _, .own h d n t => .own (g _ _ h) (d.mono fun a o e n => ⟨g a o e, n⟩) n (SlAll.grow g t)
  | _, _, _, .pot e h d t => .pot e (g _ _ h) (d.mono fun a o e n => ⟨g a o e, n⟩) (SlAll.grow g t)
  | _, _, _, .tab e h d f t => .tab e (g _ _ h) d (fun pos cv z => let ⟨c, h1, h2, h3⟩ := f pos cv z; ⟨c, h1, g _ _ h2, h3⟩) (SlAll.grow g t)
  | _, _, _, .dic h n t => .dic (h.mono (fun a o e n => ⟨g a o e, n⟩) (g _)) n (SlAll.grow g t)
theorem Rel.grow (r : Rel K Z M σ H s) (g : ∀ a o, H a = some o → H' a = some o) : Rel K Z M σ H' s :=
  ⟨fun a o h n => g a o (r.base a o h n), fun a h => ⟨(r.fr a h).1, (r.fr a h).2.1, (r.fr a h).2.2.1, let ⟨o, e⟩ := (r.fr a h).2.2.2; ⟨o, g a o e⟩⟩, fun a h => let ⟨o, e⟩ := r.mz a h; ⟨o, g a o e⟩, fun a h => let ⟨o, e⟩ := r.pt a h; ⟨o, g a o e⟩, r.sl.grow g⟩
theorem kp_grow (g : ∀ a o, H a = some o → H' a = some o) : Kp mu H mu H' := fun a o e n => ⟨g a o e, n⟩
theorem SlAll.len : ∀ {σ : L2.St} {s : Sl} {M : List Addr}, SlAll K mu p H σ s M → σ.length = s.length
  | _, _, _, .nil => rfl
  | _, _, _, .dat h t => by simp [SlAll.len t]
  | _, _, _, .no t => by simp [SlAll.len t]
  | _, _, _, .rf t => by simp [SlAll.len t]
  | _, _, _, .own h d n t => by simp [SlAll.len t]
  | _, _, _, .pot e h d t => by simp [SlAll.len t]
  | _, _, _, .tab e h d f t => by simp [SlAll.len t]
  | _, _, _, .dic h n t => by simp [SlAll.len t]
theorem SlAll.get : ∀ {σ : L2.St} {s : Sl} {M : List Addr} {i : Nat} {d : PyData}, SlAll K mu p H σ s M → s[i]? = some (.dat d) → ∃ v, σ[i]? = some (some v) ∧ Dt K mu H v d
  | _, _, _, _, _, .nil, e => by simp at e
  | _, _, _, 0, _, .dat h t, e => by simp at e; subst e; exact ⟨_, rfl, h⟩
  | _, _, _, 0, _, .no t, e => by simp at e
  | _, _, _, 0, _, .rf t, e => by simp at e
  | _, _, _, 0, _, .own .., e => by simp at e
  | _, _, _, 0, _, .pot .., e => by simp at e
  | _, _, _, i + 1, _, .dat h t, e => by simpa using SlAll.get (i := i) t (by simpa using e)
  | _, _, _, i + 1, _, .no t, e => by simpa using SlAll.get (i := i) t (by simpa using e)
  | _, _, _, i + 1, _, .rf t, e => by simpa using SlAll.get (i := i) t (by simpa using e)
  | _, _, _, i + 1, _, .own _ _ _ t, e => by simpa using SlAll.get (i := i) t (by simpa using e)
  | _, _, _, i + 1, _, .pot _ _ _ t, e => by simpa using SlAll.get (i := i) t (by simpa using e)
  | _, _, _, 0, _, .tab .., e => by simp at e
  | _, _, _, i + 1, _, .tab _ _ _ _ t, e => by simpa using SlAll.get (i := i) t (by simpa using e)
  | _, _, _, 0, _, .dic .., e => by simp at e
  | _, _, _, i + 1, _, .dic _ _ t, e => by simpa using SlAll.get (i := i) t (by simpa using e)
theorem SlAll.getPot {k : Nat} : ∀ {σ : L2.St} {s : Sl} {M : List Addr} {i : Nat} {ds : List PyData}, SlAll K mu p H σ s M → s[i]? = some (.pot k ds) → ∃ a xs, σ[i]? = some (some (.ref a)) ∧ p[k]? = some a ∧ H a = some (.lst xs) ∧ DtAll K mu H xs ds
  | _, _, _, _, _, .nil, e => by simp at e
  | _, _, _, 0, _, .dat h t, e => by simp at e
  | _, _, _, 0, _, .no t, e => by simp at e
  | _, _, _, 0, _, .rf t, e => by simp at e
  | _, _, _, 0, _, .own .., e => by simp at e
  | _, _, _, 0, _, .pot h1 h2 h3 t, e => by simp at e; obtain ⟨e1, e2⟩ := e; subst e1 e2; exact ⟨_, _, rfl, h1, h2, h3⟩
  | _, _, _, i + 1, _, .dat h t, e => by simpa using SlAll.getPot (i := i) t (by simpa using e)
  | _, _, _, i + 1, _, .no t, e => by simpa using SlAll.getPot (i := i) t (by simpa using e)
  | _, _, _, i + 1, _, .rf t, e => by simpa using SlAll.getPot (i := i) t (by simpa using e)
  | _, _, _, i + 1, _, .own _ _ _ t, e => by simpa using SlAll.getPot (i := i) t (by simpa using e)
  | _, _, _, i + 1, _, .pot _ _ _ t, e => by simpa using SlAll.getPot (i := i) t (by simpa using e)
  | _, _, _, 0, _, .tab .., e => by simp at e
  | _, _, _, i + 1, _, .tab _ _ _ _ t, e => by simpa using SlAll.getPot (i := i) t (by simpa using e)
  | _, _, _, 0, _, .dic .., e => by simp at e
  | _, _, _, i + 1, _, .dic _ _ t, e => by simpa using SlAll.getPot (i := i) t (by simpa using e)
theorem SlAll.getOwn : ∀ {σ : L2.St} {s : Sl} {M : List Addr} {i : Nat} {ds : List PyData}, SlAll K mu p H σ s M → s[i]? = some (.own ds) → ∃ a xs, σ[i]? = some (some (.ref a)) ∧ a ∈ M ∧ H a = some (.lst xs) ∧ DtAll K mu H xs ds
  | _, _, _, _, _, .nil, e => by simp at e
  | _, _, _, 0, _, .dat h t, e => by simp at e
  | _, _, _, 0, _, .no t, e => by simp at e
  | _, _, _, 0, _, .rf t, e => by simp at e
  | _, _, _, 0, _, .own h2 h3 n t, e => by simp at e; subst e; exact ⟨_, _, rfl, List.mem_cons_self, h2, h3⟩
  | _, _, _, 0, _, .pot .., e => by simp at e
  | _, _, _, i + 1, _, .dat h t, e => by simpa using SlAll.getOwn (i := i) t (by simpa using e)
  | _, _, _, i + 1, _, .no t, e => by simpa using SlAll.getOwn (i := i) t (by simpa using e)
  | _, _, _, i + 1, _, .rf t, e => by simpa using SlAll.getOwn (i := i) t (by simpa using e)
  | _, _, _, i + 1, _, .own _ _ _ t, e => by
    obtain ⟨a, xs, h1, h2, h3⟩ := SlAll.getOwn (i := i) t (by simpa using e)
    exact ⟨a, xs, by simpa using h1, List.mem_cons_of_mem _ h2, h3⟩
  | _, _, _, i + 1, _, .pot _ _ _ t, e => by simpa using SlAll.getOwn (i := i) t (by simpa using e)
  | _, _, _, 0, _, .tab .., e => by simp at e
  | _, _, _, i + 1, _, .tab _ _ _ _ t, e => by simpa using SlAll.getOwn (i := i) t (by simpa using e)
  | _, _, _, 0, _, .dic .., e => by simp at e
  | _, _, _, i + 1, _, .dic _ _ t, e => by
    obtain ⟨a, xs, h1, h2, h3⟩ := SlAll.getOwn (i := i) t (by simpa using e)
    exact ⟨a, xs, by simpa using h1, List.mem_cons_of_mem _ h2, h3⟩
theorem SlAll.getDic : ∀ {σ : L2.St} {s : Sl} {M : List Addr} {i : Nat} {c : Ct}, SlAll K mu p H σ s M → s[i]? = some (.dic c) → ∃ a, σ[i]? = some (some (.ref a)) ∧ a ∈ M ∧ CtOk K mu H a c
  | _, _, _, _, _, .nil, e => by simp at e
  | _, _, _, 0, _, .dat h t, e => by simp at e
  | _, _, _, 0, _, .no t, e => by simp at e
  | _, _, _, 0, _, .rf t, e => by simp at e
  | _, _, _, 0, _, .own .., e => by simp at e
  | _, _, _, 0, _, .pot .., e => by simp at e
  | _, _, _, 0, _, .tab .., e => by simp at e
  | _, _, _, 0, _, .dic h n t, e => by simp at e; subst e; exact ⟨_, rfl, List.mem_cons_self, h⟩
  | _, _, _, i + 1, _, .dat h t, e => by simpa using SlAll.getDic (i := i) t (by simpa using e)
  | _, _, _, i + 1, _, .no t, e => by simpa using SlAll.getDic (i := i) t (by simpa using e)
  | _, _, _, i + 1, _, .rf t, e => by simpa using SlAll.getDic (i := i) t (by simpa using e)
  | _, _, _, i + 1, _, .own _ _ _ t, e => by
    obtain ⟨a, h1, h2, h3⟩ := SlAll.getDic (i := i) t (by simpa using e)
    exact ⟨a, by simpa using h1, List.mem_cons_of_mem _ h2, h3⟩
  | _, _, _, i + 1, _, .pot _ _ _ t, e => by simpa using SlAll.getDic (i := i) t (by simpa using e)
  | _, _, _, i + 1, _, .tab _ _ _ _ t, e => by simpa using SlAll.getDic (i := i) t (by simpa using e)
  | _, _, _, i + 1, _, .dic _ _ t, e => by
    obtain ⟨a, h1, h2, h3⟩ := SlAll.getDic (i := i) t (by simpa using e)
    exact ⟨a, by simpa using h1, List.mem_cons_of_mem _ h2, h3⟩
/-- a wider or other set of what may be written, where what is read stays -/
theorem SlAll.kp (k : Kp mu H mu' H') (ho : ∀ a o, a ∈ M → H a = some o → H' a = some o) (hp : ∀ a o, a ∈ p → H a = some o → H' a = some o) : ∀ {σ : L2.St} {s : Sl} {M2 : List Addr}, (∀ a ∈ M2, a ∈ M) → SlAll K mu p H σ s M2 → SlAll K mu' p H' σ s M2
  | _, _, _, _, .nil => .nil
  | _, _, _, hs, .dat h t => .dat (h.mono k) (SlAll.kp k ho hp hs t)
  | _, _, _, hs, .no t => .no (SlAll.kp k ho hp hs t)
  | _, _, _, hs, .rf t => .rf (SlAll.kp k ho hp hs t)
  | _, _, _, hs, .own h d n t => .own (ho _ _ (hs _ List.mem_cons_self) h) (d.mono k) n (SlAll.kp k ho hp (fun a h => hs a (List.mem_cons_of_mem _ h)) t)
  | _, _, _, hs, .pot e h d t => .pot e (hp _ _ (List.mem_of_getElem? e) h) (d.mono k) (SlAll.kp k ho hp hs t)
  | _, _, _, hs, .tab e h d f t => .tab e (hp _ _ (List.mem_of_getElem? e) h) d (fun pos cv z => let ⟨c, h1, h2, h3⟩ := f pos cv z; ⟨c, h1, (k _ _ h2 h3).1, (k _ _ h2 h3).2⟩) (SlAll.kp k ho hp hs t)
  | _, _, _, hs, .dic h n t => .dic (h.mono k fun o => ho _ o (hs _ List.mem_cons_self)) n (SlAll.kp k ho hp (fun a h => hs a (List.mem_cons_of_mem _ h)) t)
/-- a name is given data -/
theorem SlAll.setDat {v : V} {d : PyData} (hv : Dt K mu H v d) : ∀ {σ : L2.St} {s : Sl} {M : List Addr} (i : Nat), SlAll K mu p H σ s M → ∃ M', (∀ a ∈ M', a ∈ M) ∧ SlAll K mu p H (σ.set i (some v)) (s.set i (.dat d)) M'
  | _, _, _, _, .nil => ⟨[], fun _ h => h, .nil⟩
  | _, _, _, 0, .dat h t => ⟨_, fun _ h => h, .dat hv t⟩
  | _, _, _, 0, .no t => ⟨_, fun _ h => h, .dat hv t⟩
  | _, _, _, 0, .rf t => ⟨_, fun _ h => h, .dat hv t⟩
  | _, _, _, 0, .own h d n t => ⟨_, fun _ h => List.mem_cons_of_mem _ h, .dat hv t⟩
  | _, _, _, 0, .pot e h d t => ⟨_, fun _ h => h, .dat hv t⟩
  | _, _, _, 0, .tab e h d f t => ⟨_, fun _ h => h, .dat hv t⟩
  | _, _, _, i + 1, .dat h t => let ⟨M', a, b⟩ := SlAll.setDat hv i t; ⟨M', a, .dat h b⟩
  | _, _, _, i + 1, .no t => let ⟨M', a, b⟩ := SlAll.setDat hv i t; ⟨M', a, .no b⟩
  | _, _, _, i + 1, .rf t => let ⟨M', a, b⟩ := SlAll.setDat hv i t; ⟨M', a, .rf b⟩
  | _, _, _, i + 1, .own h d n t => let ⟨M', a, b⟩ := SlAll.setDat hv i t; ⟨_ :: M', fun c hc => by
      rcases List.mem_cons.mp hc with e | e
      · rw [e]; exact List.mem_cons_self
      · exact List.mem_cons_of_mem _ (a c e), .own h d (fun hc => n (a _ hc)) b⟩
  | _, _, _, i + 1, .pot e h d t => let ⟨M', a, b⟩ := SlAll.setDat hv i t; ⟨M', a, .pot e h d b⟩
  | _, _, _, i + 1, .tab e h d f t => let ⟨M', a, b⟩ := SlAll.setDat hv i t; ⟨M', a, .tab e h d f b⟩
  | _, _, _, 0, .dic h n t => ⟨_, fun _ h => List.mem_cons_of_mem _ h, .dat hv t⟩
  | _, _, _, i + 1, .dic h n t => let ⟨M', a, b⟩ := SlAll.setDat hv i t; ⟨_ :: M', fun c hc => by
      rcases List.mem_cons.mp hc with e | e
      · rw [e]; exact List.mem_cons_self
      · exact List.mem_cons_of_mem _ (a c e), .dic h (fun hc => n (a _ hc)) b⟩
theorem Rel.setDat {v : V} {d : PyData} (r : Rel K Z M σ H s) (hv : Dt K (Mu Z M) H v d) (i : Nat) : ∃ M', (∀ a ∈ M', a ∈ M) ∧ Rel K Z M' (σ.set i (some v)) H (s.set i (.dat d)) ∧ Kq Z M H M' H := by
  obtain ⟨M', h1, h2⟩ := r.sl.setDat hv i
  have k : Kp (Mu Z M) H (Mu Z M') H := fun a o e n => ⟨e, fun q => n (q.elim .inl fun z => .inr (z.elim .inl fun z => .inr (h1 a z)))⟩
  exact ⟨M', h1, ⟨r.base, fun a h => r.fr a (h1 a h), r.mz, r.pt, h2.kp k (M := M') (fun _ _ _ e => e) (fun _ _ _ e => e) (fun _ h => h)⟩, fun a o e _ n => ⟨e, fun z => n (h1 a z)⟩⟩
end
end Dl

namespace Dl
open PySem PySem.Spec PyProof.Rows L2
/-! ### makings of tuples that are kept with their object (which has no dict of its own) -/
abbrev tob (us : List Value) : Obj := { cls := .type "tuple", data := .seq us.toArray }
def NewT (H : Hp) (ys : List V) (Q : VK) : Prop := ∀ (p : Addr) (o : Obj), H p = none → o.dict = none → Q (.ref p) (upd H p (.frz o (.tup ys)))
section
variable {X : Cx} {pins : List (Addr × Obj)} {σ : L2.St} {H : Hp} {s : Shared}
/-- the new tuple is laid -/
theorem Inv.layT (I : Inv X pins σ H s) {ys : List V} {us : List Value} {Q : VK} (z : ys.length ≤ sizeLine) (r : Vals ys us) (q : NewT H ys Q) :
    EP X pins σ Q (.ref s.heap.objs.size) { s with heap := s.heap.push (tob us) } :=
  ⟨.ref s.heap.objs.size, _, I.laid (t' := s.toks) (o := .frz (tob us) (.tup ys)) (fun b u e => Heap.get?_push_of_some _ e) (Nat.le_refl _)
    ⟨Heap.get?_push_size _ rfl, z, us, r, IsTup.new _ _⟩, rfl, q _ _ (I.hok.fresh (Nat.le_refl _)) rfl⟩
variable {es : List Expr} {t : TA} {pos : Pos}
def tTupF (t : TA) : TE := fun σ H Q => t σ H fun ys H1 => ys.length ≤ sizeLine ∧ NewT H1 ys Q
theorem pe_tupF {x1} (h : PA X es t) : PE X (.Tuple es x1 pos) (tTupF t) := by
  constructor
  intro pins s σ H Q I hq
  refine wpAny_Tuple_spliced (thn (h.run pos pins s σ H _ I hq) ?_)
  rintro us s1 ⟨ys, H1, I1, r, z, q⟩
  exact ⟨by have := r.length; omega, Inv.layT I1 z r q⟩
def rSlF (K : PySem.W.Frag) : V → Option Int → Option Int → Hp → VK → Prop := fun x lo hi H Q => ∃ a ys, x = .ref a ∧ SqT K H a ys ∧
  ((HT.sIx ys.length 0 lo = 0 ∧ HT.sIx ys.length ys.length hi = ys.length) → Q (.ref a) H) ∧ (¬ (HT.sIx ys.length 0 lo = 0 ∧ HT.sIx ys.length ys.length hi = ys.length) → NewT H (cutV ys lo hi) Q)
theorem sl_tupF : SlR X (rSlF X.K) := by
  rintro pins s σ H x v vl vu lo hi sl Q I rx hs pl pu ⟨a, ys, rfl, hx, q1, q2⟩
  cases rx
  obtain ⟨its, r, ht, hz⟩ := I.tuple hx
  have hlen : its.toArray.size = ys.length := List.size_toArray.trans r.length.symm
  refine ⟨"tuple", _, slot_tuple_getitem.lookup, ht.typeIs, ?_⟩
  by_cases w : HT.sIx ys.length 0 lo = 0 ∧ HT.sIx ys.length ys.length hi = ys.length
  · exact getItem_tuple_whole ht hs pl pu (hlen ▸ w) ⟨.ref a, H, I, rfl, q1 w⟩
  · refine HT.getItem_tuple_cut ht hs pl pu (hlen ▸ w) ?_ (hlen ▸ hz)
    rw [hlen]
    exact Inv.layT I (Nat.le_trans (cutV_length ys lo hi) hz) ((r.drop _).take _) (q2 w)
def rCatF (K : PySem.W.Frag) : R2 := fun x y H Q => ∃ a b xs ys, x = .ref a ∧ y = .ref b ∧ SqT K H a xs ∧ SqT K H b ys ∧ xs.length + ys.length ≤ sizeLine ∧
  (xs = [] → Q (.ref b) H) ∧ (xs ≠ [] → ys = [] → Q (.ref a) H) ∧ (xs ≠ [] → ys ≠ [] → NewT H (xs ++ ys) Q)
theorem op_catF : OpR X (binaryOp .Add) (rCatF X.K) := by
  rintro pins s σ H x y v u Q I rx ry ⟨a, b, xs, ys, rfl, rfl, ha, hb, hz, q0, q1, q2⟩
  cases rx
  cases ry
  obtain ⟨us, r1, p1, _⟩ := I.tuple ha
  obtain ⟨ws, r2, p2, _⟩ := I.tuple hb
  have l1 := r1.length
  have l2 := r2.length
  by_cases hx : xs = []
  · subst hx
    cases r1
    exact cat_tup0 p1 p2 ⟨.ref b, H, I, rfl, q0 rfl⟩
  · exact HT.cat_tup p1 p2 (fun z => hx (r1.nil_iff.mp z)) (fun z => ⟨.ref a, H, I, rfl, q1 hx (r2.nil_iff.mp z)⟩)
      (fun z => Inv.layT I (by rw [List.length_append]; exact hz) (r1.append r2) (q2 hx fun w => z (r2.nil_iff.mpr w))) (by omega)
theorem call_tuple_ofF : CallR X (.type "tuple") (fun xs H Q => ∃ p ys, xs = [.ref p] ∧ ((SqL X.K H p ys ∧ NewT H ys Q) ∨ (SqT X.K H p ys ∧ Q (.ref p) H))) := by
  rintro pins s σ H xs us Q I r ⟨p, ys, rfl, h⟩
  obtain ⟨u, rfl, rx⟩ := vals1 r
  cases rx
  rcases h with ⟨hq, q⟩ | ⟨hq, q⟩
  · obtain ⟨its, r', pl, hz⟩ := I.list hq
    have l := r'.length
    refine call_tuple_list pl.isList (fun h' kp => ?_) ?_
    · exact Inv.layT (I.kept (t' := s.toks) kp) hz r' q
    · rw [List.size_toArray]; omega
  · obtain ⟨its, r', pl, hz⟩ := I.tuple hq
    exact call_tuple_same pl ⟨.ref p, H, I, rfl, q⟩
end
end Dl

namespace Dl
open PySem PySem.Spec PyProof.Rows L2

/-! ### meanings -/
abbrev DE := Sl → Option (PyData × Sl)
abbrev DT := Sl → Option (Bool × Sl)
abbrev DA := Sl → Option (List PyData × Sl)
inductive Fl where
  | nx (s : Sl) | rt (d : PyData) (s : Sl) | bk (s : Sl) | ct (s : Sl)
abbrev DS := Sl → Option Fl

def lft (K : PySem.W.Frag) (Z : Par) (f : DE) : TE := fun σ H Q => ∃ M s d s', Rel K Z M σ H s ∧ f s = some (d, s') ∧ ∀ v H', Kq Z M H M H' → Rel K Z M σ H' s' → Dt K (Mu Z M) H' v d → Q v H'
def lfT (K : PySem.W.Frag) (Z : Par) (f : DT) : TT := fun σ H Q => ∃ M s d s', Rel K Z M σ H s ∧ f s = some (d, s') ∧ ∀ H', Kq Z M H M H' → Rel K Z M σ H' s' → Q d H'
def lfA (K : PySem.W.Frag) (Z : Par) (f : DA) : TA := fun σ H Q => ∃ M s d s', Rel K Z M σ H s ∧ f s = some (d, s') ∧ ∀ vs H', Kq Z M H M H' → Rel K Z M σ H' s' → DtAll K (Mu Z M) H' vs d → Q vs H'
/-- what a statement leaves -/
def FlOk (K : PySem.W.Frag) (Z : Par) (M0 : List Addr) (H0 : Hp) (D : Ends) : Fl → Prop
  | .nx s => ∀ M σ H, Kq Z M0 H0 M H → Rel K Z M σ H s → D.nx σ H
  | .rt d s => ∀ M σ H v, Kq Z M0 H0 M H → Rel K Z M σ H s → Dt K (Mu Z M) H v d → D.rt v H
  | .bk s => ∀ M σ H, Kq Z M0 H0 M H → Rel K Z M σ H s → D.bk σ H
  | .ct s => ∀ M σ H, Kq Z M0 H0 M H → Rel K Z M σ H s → D.ct σ H
def lfS (K : PySem.W.Frag) (Z : Par) (f : DS) : TS := fun D σ H => ∃ M s fl, Rel K Z M σ H s ∧ f s = some fl ∧ FlOk K Z M H D fl

theorem PEimp {X : Cx} {e : Expr} {t t' : TE} (h : PE X e t) (i : ∀ σ H Q, t' σ H Q → t σ H Q) : PE X e t' := ⟨fun pins s σ H Q I q => h.run pins s σ H Q I (i σ H Q q)⟩
theorem PTimp {X : Cx} {e : Expr} {t t' : TT} (h : PT X e t) (i : ∀ σ H Q, t' σ H Q → t σ H Q) : PT X e t' := ⟨fun pins s σ H Q I q => h.run pins s σ H Q I (i σ H Q q)⟩
theorem PWimp {X : Cx} {e : Expr} {t t' : TT} (h : PW X e t) (i : ∀ σ H Q, t' σ H Q → t σ H Q) : PW X e t' := ⟨fun w pins s σ H Q I q => h.run w pins s σ H Q I (i σ H Q q)⟩
theorem PAimp {X : Cx} {e : List Expr} {t t' : TA} (h : PA X e t) (i : ∀ σ H Q, t' σ H Q → t σ H Q) : PA X e t' := ⟨fun pos pins s σ H Q I q => h.run pos pins s σ H Q I (i σ H Q q)⟩
theorem PSimp {X : Cx} {e : Stmt} {t t' : TS} (h : PS X e t) (i : ∀ D σ H, t' D σ H → t D σ H) : PS X e t' := ⟨fun pins s σ H D I q => h.run pins s σ H D I (i D σ H q)⟩
theorem PSsimp {X : Cx} {e : List Stmt} {t t' : TS} (h : PSs X e t) (i : ∀ D σ H, t' D σ H → t D σ H) : PSs X e t' := ⟨fun pins s σ H D I q => h.run pins s σ H D I (i D σ H q)⟩

/-! ### names, constants -/
def dVar (i : Nat) : DE := fun s => match s[i]? with
  | some (.dat d) => some (d, s)
  | _ => none
def dC (d : PyData) : DE := fun s => some (d, s)
theorem dVar_some {i : Nat} {s s' : Sl} {d : PyData} (h : dVar i s = some (d, s')) : s[i]? = some (.dat d) ∧ s' = s := by
  unfold dVar at h
  split at h
  · rename_i d' e
    simp only [Option.some.injEq, Prod.mk.injEq] at h
    obtain ⟨rfl, rfl⟩ := h
    exact ⟨e, rfl⟩
  · cases h

section
variable {X : Cx} {Z : Par} {a b e : Expr} {es : List Expr} {pos : Pos} {fa fb fc : DE}
theorem dv (i : Nat) {x : Str} {pos : Pos} (hN : X.N[i]? = some x := by rfl) (hv : Vis X.env.scope x := by first | exact Or.inl rfl | exact Or.inr (Or.inl rfl) | exact Or.inr (Or.inr rfl)) (hd : (x == ("__debug__" : Str)) = false := by decide)
    (hcd : (x == ("__classdict__" : Str)) = false := by decide) : PE X (.Name x pos) (lft X.K Z (dVar i)) := PEimp (pe_var hN hv hd hcd) fun σ H Q h => by
  obtain ⟨M, s, d, s', r, hf, k⟩ := h
  obtain ⟨e, rfl⟩ := dVar_some hf
  obtain ⟨v, h1, h2⟩ := r.sl.get e
  exact ⟨v, h1, k v H (Kq.refl _ _ _) r h2⟩
theorem lft_c {v : V} {d : PyData} (hv : ∀ mu H, Dt X.K mu H v d) {t : TE} (ht : t = tC v) (he : PE X e t) : PE X e (lft X.K Z (dC d)) := PEimp (by rw [ht] at he; exact he) fun σ H Q h => by
  obtain ⟨M, s, d', s', r, hf, k⟩ := h
  cases hf
  exact k v H (Kq.refl _ _ _) r (hv _ _)
theorem di {i : Int} {j pos} : PE X (.Constant (.int i) j pos) (lft X.K Z (dC (.int i))) := lft_c (fun _ _ => .int i) rfl pe_int
theorem ds {x : Str} {j pos} : PE X (.Constant (.str x) j pos) (lft X.K Z (dC (.str x))) := lft_c (fun _ _ => .str x) rfl pe_str
theorem db {b : Bool} {j pos} : PE X (.Constant (.bool b) j pos) (lft X.K Z (dC (.bool b))) := lft_c (fun _ _ => .bl b) rfl pe_bl
theorem dn {j pos} : PE X (.Constant .none j pos) (lft X.K Z (dC .none)) := lft_c (fun _ _ => .non) rfl pe_non
/-- a module's constant -/
theorem dg {x : Str} {v : V} {u : Value} {d : PyData} (hg : Gl X x) (hm : X.mg x = some u) (r : RelV v u) (hv : ∀ mu H, Dt X.K mu H v d) (hd : (x == ("__debug__" : Str)) = false := by decide) : PE X (.Name x pos) (lft X.K Z (dC d)) := lft_c hv rfl (pe_glob hg hm r hd)

/-! ### operators by trees -/
def dOp (g : PyData → PyData → Option PyData) (fa fb : DE) : DE := fun s => (fa s).bind fun p => (fb p.2).bind fun q => (g p.1 q.1).map fun d => (d, q.2)
def dUn (g : PyData → Option PyData) (fa : DE) : DE := fun s => (fa s).bind fun p => (g p.1).map fun d => (d, p.2)
theorem dOp_some {g : PyData → PyData → Option PyData} {s s' : Sl} {d : PyData} (h : dOp g fa fb s = some (d, s')) : ∃ d1 s1 d2, fa s = some (d1, s1) ∧ fb s1 = some (d2, s') ∧ g d1 d2 = some d := by
  unfold dOp at h
  simp only [Option.bind_eq_some_iff, Option.map_eq_some_iff] at h
  obtain ⟨⟨d1, s1⟩, h1, ⟨d2, s2⟩, h2, d', h3, h4⟩ := h
  cases h4
  exact ⟨d1, s1, d2, h1, h2, h3⟩
theorem dUn_some {g : PyData → Option PyData} {s s' : Sl} {d : PyData} (h : dUn g fa s = some (d, s')) : ∃ d1, fa s = some (d1, s') ∧ g d1 = some d := by
  unfold dUn at h
  simp only [Option.bind_eq_some_iff, Option.map_eq_some_iff] at h
  obtain ⟨⟨d1, s1⟩, h1, d', h3, h4⟩ := h
  cases h4
  exact ⟨d1, h1, h3⟩
/-- a rule by values does what g says of trees -/
def OpOk (K : PySem.W.Frag) (r : R2) (g : PyData → PyData → Option PyData) : Prop := ∀ (mu : Addr → Prop) (H : Hp) (x y : V) (d1 d2 d : PyData) (Q : VK), (∀ a, mu a → ∃ o, H a = some o) → Dt K mu H x d1 → Dt K mu H y d2 → g d1 d2 = some d →
  (∀ v H', (∀ a o, H a = some o → H' a = some o) → Dt K mu H' v d → Q v H') → r x y H Q
def UnOk (K : PySem.W.Frag) (r : V → Hp → VK → Prop) (g : PyData → Option PyData) : Prop := ∀ (mu : Addr → Prop) (H : Hp) (x : V) (d1 d : PyData) (Q : VK), (∀ a, mu a → ∃ o, H a = some o) → Dt K mu H x d1 → g d1 = some d →
  (∀ v H', (∀ a o, H a = some o → H' a = some o) → Dt K mu H' v d → Q v H') → r x H Q
def CallOk (K : PySem.W.Frag) (r : List V → Hp → VK → Prop) (g : List PyData → Option PyData) : Prop := ∀ (mu : Addr → Prop) (H : Hp) (xs : List V) (ds : List PyData) (d : PyData) (Q : VK), (∀ a, mu a → ∃ o, H a = some o) → DtAll K mu H xs ds → g ds = some d →
  (∀ v H', (∀ a o, H a = some o → H' a = some o) → Dt K mu H' v d → Q v H') → r xs H Q
theorem lift_op {r : R2} {g : PyData → PyData → Option PyData} (ok : OpOk X.K r g) {σ : L2.St} {H : Hp} {Q : VK} (h : lft X.K Z (dOp g fa fb) σ H Q) : tOp r (lft X.K Z fa) (lft X.K Z fb) σ H Q := by
  obtain ⟨M, s, d, s', rl, hf, k⟩ := h
  obtain ⟨d1, s1, d2, h1, h2, h3⟩ := dOp_some hf
  refine ⟨M, s, d1, s1, rl, h1, fun x H1 k1 r1 t1 => ⟨M, s1, d2, s', r1, h2, fun y H2 k2 r2 t2 => ?_⟩⟩
  refine ok (Mu Z M) H2 x y d1 d2 d Q r2.muT (t1.mono k2.kp) t2 h3 fun v H3 g3 t3 => ?_
  exact k v H3 (k1.trans (k2.trans (kq_grow g3))) (r2.grow g3) t3
theorem lift_un {r : V → Hp → VK → Prop} {g : PyData → Option PyData} (ok : UnOk X.K r g) {σ : L2.St} {H : Hp} {Q : VK} (h : lft X.K Z (dUn g fa) σ H Q) : tUn r (lft X.K Z fa) σ H Q := by
  obtain ⟨M, s, d, s', rl, hf, k⟩ := h
  obtain ⟨d1, h1, h3⟩ := dUn_some hf
  refine ⟨M, s, d1, s', rl, h1, fun x H1 k1 r1 t1 => ?_⟩
  refine ok (Mu Z M) H1 x d1 d Q r1.muT t1 h3 fun v H3 g3 t3 => ?_
  exact k v H3 (k1.trans (kq_grow g3)) (r1.grow g3) t3
theorem do_ {op : Operator} {r : R2} {g : PyData → PyData → Option PyData} (ho : OpR X (binaryOp op) r) (ok : OpOk X.K r g) (ha : PE X a (lft X.K Z fa)) (hb : PE X b (lft X.K Z fb)) : PE X (.BinOp a op b pos) (lft X.K Z (dOp g fa fb)) :=
  PEimp (pe_op ho ha hb) fun _ _ _ h => lift_op ok h
theorem du {op : UnaryOp} {r : V → Hp → VK → Prop} {g : PyData → Option PyData} (ho : UnR X (unaryOp op) r) (ok : UnOk X.K r g) (ha : PE X a (lft X.K Z fa)) : PE X (.UnaryOp op a pos) (lft X.K Z (dUn g fa)) :=
  PEimp (pe_un ho ha) fun _ _ _ h => lift_un ok h
theorem dcmp {op : CmpOp} {r : R2} {g : PyData → PyData → Option PyData} (ho : OpR X (compareOp op) r) (ok : OpOk X.K r g) (ha : PE X a (lft X.K Z fa)) (hb : PE X b (lft X.K Z fb)) (hm : behindInMarks op b = false) : PE X (.Compare a [op] [b] pos) (lft X.K Z (dOp g fa fb)) :=
  PEimp (pe_cmpR ho ha hb hm) fun _ _ _ h => lift_op ok h
theorem dix {r : R2} {g : PyData → PyData → Option PyData} (ho : IxR X r) (ok : OpOk X.K r g) (ha : PE X a (lft X.K Z fa)) (hb : PE X b (lft X.K Z fb)) (hs : PlainIx b := by exact fun _ _ => rfl) : PE X (.Subscript a b pos) (lft X.K Z (dOp g fa fb)) :=
  PEimp (pe_ix ho ha hb hs) fun _ _ _ h => lift_op ok h

/-! ### tests -/
def dTst (f : DE) : DT := fun s => (f s).bind fun p => match p.1 with
  | .bool b => some (b, p.2)
  | _ => none
theorem dTst_some {f : DE} {s s' : Sl} {b : Bool} (h : dTst f s = some (b, s')) : f s = some (.bool b, s') := by
  unfold dTst at h
  simp only [Option.bind_eq_some_iff] at h
  obtain ⟨⟨d1, s1⟩, h1, h2⟩ := h
  dsimp only at h2
  split at h2
  · cases h2; exact h1
  · cases h2
theorem lift_tB {f : DE} {σ : L2.St} {H : Hp} {Q : Bool → Hp → Prop} (h : lfT X.K Z (dTst f) σ H Q) : tB (lft X.K Z f) σ H Q := by
  obtain ⟨M, s, b, s', rl, hf, k⟩ := h
  exact ⟨M, s, .bool b, s', rl, dTst_some hf, fun v H' k1 r1 t1 => ⟨b, t1.bool, k H' k1 r1⟩⟩
/-- an expression that gives a bool, as a test -/
theorem dt (h : PE X e (lft X.K Z fa)) (he : ∀ whole, isTrue e X.env whole = (do let v ← whole; standAt e.pos; holding [v] (truthy v)) := by intro _; rfl) : PT X e (lfT X.K Z (dTst fa)) := PTimp (pt_val h he) fun _ _ _ h => lift_tB h
theorem dtcmp {op : CmpOp} {r : R2} {g : PyData → PyData → Option PyData} (ho : OpR X (compareOp op) r) (ok : OpOk X.K r g) (ha : PE X a (lft X.K Z fa)) (hb : PE X b (lft X.K Z fb)) (hm : behindInMarks op b = false) : PT X (.Compare a [op] [b] pos) (lfT X.K Z (dTst (dOp g fa fb))) :=
  PTimp (pt_cmpR ho ha hb hm) fun σ H Q h => by
    obtain ⟨M, s, b, s', rl, hf, k⟩ := h
    exact lift_op ok ⟨M, s, .bool b, s', rl, dTst_some hf, fun v H' k1 r1 t1 => ⟨b, t1.bool, k H' k1 r1⟩⟩
variable {ta tb : DT} {rest : List Expr}
def dAndT (f g : DT) : DT := fun s => (f s).bind fun p => if p.1 = true then g p.2 else some (false, p.2)
def dOrT (f g : DT) : DT := fun s => (f s).bind fun p => if p.1 = true then some (true, p.2) else g p.2
def dNotT (f : DT) : DT := fun s => (f s).map fun p => (!p.1, p.2)
theorem dtand (ha : PT X a (lfT X.K Z ta)) (hb : PW X (.BoolOp .And (b :: rest) pos) (lfT X.K Z tb)) : PW X (.BoolOp .And (a :: b :: rest) pos) (lfT X.K Z (dAndT ta tb)) := PWimp (pw_and ha hb) fun σ H Q h => by
  obtain ⟨M, s, c, s', rl, hf, k⟩ := h
  unfold dAndT at hf
  simp only [Option.bind_eq_some_iff] at hf
  obtain ⟨⟨c1, s1⟩, h1, h2⟩ := hf
  refine ⟨M, s, c1, s1, rl, h1, fun H1 k1 r1 => ?_⟩
  cases c1 with
  | true => exact ⟨M, s1, c, s', r1, h2, fun H2 k2 r2 => k H2 (k1.trans k2) r2⟩
  | false => cases h2; exact k H1 k1 r1
theorem dtor (ha : PT X a (lfT X.K Z ta)) (hb : PW X (.BoolOp .Or (b :: rest) pos) (lfT X.K Z tb)) : PW X (.BoolOp .Or (a :: b :: rest) pos) (lfT X.K Z (dOrT ta tb)) := PWimp (pw_or ha hb) fun σ H Q h => by
  obtain ⟨M, s, c, s', rl, hf, k⟩ := h
  unfold dOrT at hf
  simp only [Option.bind_eq_some_iff] at hf
  obtain ⟨⟨c1, s1⟩, h1, h2⟩ := hf
  refine ⟨M, s, c1, s1, rl, h1, fun H1 k1 r1 => ?_⟩
  cases c1 with
  | false => exact ⟨M, s1, c, s', r1, h2, fun H2 k2 r2 => k H2 (k1.trans k2) r2⟩
  | true => cases h2; exact k H1 k1 r1
theorem dtnot (ha : PT X a (lfT X.K Z ta)) : PT X (.UnaryOp .Not a pos) (lfT X.K Z (dNotT ta)) := PTimp (pt_not ha) fun σ H Q h => by
  obtain ⟨M, s, c, s', rl, hf, k⟩ := h
  unfold dNotT at hf
  simp only [Option.map_eq_some_iff] at hf
  obtain ⟨⟨c1, s1⟩, h1, h2⟩ := hf
  cases h2
  exact ⟨M, s, c1, s1, rl, h1, fun H1 k1 r1 => k H1 k1 r1⟩
/-! and, or, not as values; all but the last bools -/
def dAnd (f g : DE) : DE := fun s => (dTst f s).bind fun p => if p.1 = true then g p.2 else some (.bool false, p.2)
def dOr (f g : DE) : DE := fun s => (dTst f s).bind fun p => if p.1 = true then some (.bool true, p.2) else g p.2
def dNot (f : DE) : DE := fun s => (dTst f s).map fun p => (.bool (!p.1), p.2)
theorem dand (ha : PE X a (lft X.K Z fa)) (hb : PE X (.BoolOp .And (b :: rest) pos) (lft X.K Z fb)) : PE X (.BoolOp .And (a :: b :: rest) pos) (lft X.K Z (dAnd fa fb)) := PEimp (pe_and ha hb) fun σ H Q h => by
  obtain ⟨M, s, c, s', rl, hf, k⟩ := h
  unfold dAnd at hf
  simp only [Option.bind_eq_some_iff] at hf
  obtain ⟨⟨c1, s1⟩, h1, h2⟩ := hf
  refine ⟨M, s, .bool c1, s1, rl, dTst_some h1, fun v H1 k1 r1 t1 => ⟨c1, t1.bool, ?_⟩⟩
  cases c1 with
  | true => exact ⟨M, s1, c, s', r1, h2, fun v2 H2 k2 r2 t2 => k v2 H2 (k1.trans k2) r2 t2⟩
  | false => cases h2; exact k _ H1 k1 r1 (.bl false)
theorem dor (ha : PE X a (lft X.K Z fa)) (hb : PE X (.BoolOp .Or (b :: rest) pos) (lft X.K Z fb)) : PE X (.BoolOp .Or (a :: b :: rest) pos) (lft X.K Z (dOr fa fb)) := PEimp (pe_or ha hb) fun σ H Q h => by
  obtain ⟨M, s, c, s', rl, hf, k⟩ := h
  unfold dOr at hf
  simp only [Option.bind_eq_some_iff] at hf
  obtain ⟨⟨c1, s1⟩, h1, h2⟩ := hf
  refine ⟨M, s, .bool c1, s1, rl, dTst_some h1, fun v H1 k1 r1 t1 => ⟨c1, t1.bool, ?_⟩⟩
  cases c1 with
  | false => exact ⟨M, s1, c, s', r1, h2, fun v2 H2 k2 r2 t2 => k v2 H2 (k1.trans k2) r2 t2⟩
  | true => cases h2; exact k _ H1 k1 r1 (.bl true)
theorem dnot (ha : PE X a (lft X.K Z fa)) : PE X (.UnaryOp .Not a pos) (lft X.K Z (dNot fa)) := PEimp (pe_not ha) fun σ H Q h => by
  obtain ⟨M, s, c, s', rl, hf, k⟩ := h
  unfold dNot at hf
  simp only [Option.map_eq_some_iff] at hf
  obtain ⟨⟨c1, s1⟩, h1, h2⟩ := hf
  cases h2
  exact ⟨M, s, .bool c1, s1, rl, dTst_some h1, fun v H1 k1 r1 t1 => ⟨c1, t1.bool, k _ H1 k1 r1 (.bl _)⟩⟩
def dIf (t : DT) (f g : DE) : DE := fun s => (t s).bind fun p => if p.1 = true then f p.2 else g p.2
theorem dif_ {c : Expr} (hc : PT X c (lfT X.K Z ta)) (ha : PE X a (lft X.K Z fa)) (hb : PE X b (lft X.K Z fb)) : PE X (.IfExp c a b pos) (lft X.K Z (dIf ta fa fb)) := PEimp (pe_ifExp hc ha hb) fun σ H Q h => by
  obtain ⟨M, s, d, s', rl, hf, k⟩ := h
  unfold dIf at hf
  simp only [Option.bind_eq_some_iff] at hf
  obtain ⟨⟨c1, s1⟩, h1, h2⟩ := hf
  refine ⟨M, s, c1, s1, rl, h1, fun H1 k1 r1 => ?_⟩
  cases c1 with
  | false => exact ⟨M, s1, d, s', r1, h2, fun v2 H2 k2 r2 t2 => k v2 H2 (k1.trans k2) r2 t2⟩
  | true => exact ⟨M, s1, d, s', r1, h2, fun v2 H2 k2 r2 t2 => k v2 H2 (k1.trans k2) r2 t2⟩
/-- a op b op' c -/
def dChain (g g' : PyData → PyData → Option PyData) (fa fb fc : DE) : DE := fun s => (fa s).bind fun p => (fb p.2).bind fun q => (g p.1 q.1).bind fun c => match c with
  | .bool true => (fc q.2).bind fun w => (g' q.1 w.1).map fun d => (d, w.2)
  | .bool false => some (.bool false, q.2)
  | _ => none
theorem lift_chain {r r' : R2} {g g' : PyData → PyData → Option PyData} (ok : OpOk X.K r g) (ok' : OpOk X.K r' g') {σ : L2.St} {H : Hp} {Q : VK} (h : lft X.K Z (dChain g g' fa fb fc) σ H Q) : tChain r r' (lft X.K Z fa) (lft X.K Z fb) (lft X.K Z fc) σ H Q := by
  obtain ⟨M, s, d, s', rl, hf, k⟩ := h
  unfold dChain at hf
  simp only [Option.bind_eq_some_iff] at hf
  obtain ⟨⟨d1, s1⟩, h1, ⟨d2, s2⟩, h2, c, h3, h4⟩ := hf
  refine ⟨M, s, d1, s1, rl, h1, fun x H1 k1 r1 t1 => ⟨M, s1, d2, s2, r1, h2, fun y H2 k2 r2 t2 => ?_⟩⟩
  refine ok (Mu Z M) H2 x y d1 d2 c _ r2.muT (t1.mono k2.kp) t2 h3 fun v H3 g3 t3 => ?_
  have k3 : Kq Z M H2 M H3 := kq_grow g3
  split at h4
  · refine ⟨true, t3.bool, ?_⟩
    simp only [Option.bind_eq_some_iff, Option.map_eq_some_iff] at h4
    obtain ⟨⟨d3, s3⟩, h5, d4, h6, h7⟩ := h4
    cases h7
    refine iteT ⟨M, s2, d3, _, r2.grow g3, h5, fun z H4 k4 r4 t4 => ?_⟩
    refine ok' (Mu Z M) H4 y z d2 d3 _ Q r4.muT (t2.mono (k3.trans k4).kp) t4 h6 fun v H5 g5 t5 => ?_
    exact k v H5 (k1.trans (k2.trans (k3.trans (k4.trans (kq_grow g5))))) (r4.grow g5) t5
  · refine ⟨false, t3.bool, iteF ?_⟩
    cases h4
    exact k _ H3 (k1.trans (k2.trans k3)) (r2.grow g3) (.bl false)
  · cases h4
theorem dchain {op op' : CmpOp} {r r' : R2} {c : Expr} {g g' : PyData → PyData → Option PyData} (ho : OpR X (compareOp op) r) (ok : OpOk X.K r g) (ho' : OpR X (compareOp op') r') (ok' : OpOk X.K r' g') (ha : PE X a (lft X.K Z fa)) (hb : PE X b (lft X.K Z fb)) (hc : PE X c (lft X.K Z fc))
    (hm : lastMarks [op, op'] [b, c] = false := by with_unfolding_all rfl) : PE X (.Compare a [op, op'] [b, c] pos) (lft X.K Z (dChain g g' fa fb fc)) := PEimp (pe_chain ho ho' ha hb hc hm) fun _ _ _ h => lift_chain ok ok' h
theorem dtchain {op op' : CmpOp} {r r' : R2} {c : Expr} {g g' : PyData → PyData → Option PyData} (ho : OpR X (compareOp op) r) (ok : OpOk X.K r g) (ho' : OpR X (compareOp op') r') (ok' : OpOk X.K r' g') (ha : PE X a (lft X.K Z fa)) (hb : PE X b (lft X.K Z fb)) (hc : PE X c (lft X.K Z fc))
    (hm : lastMarks [op, op'] [b, c] = false := by with_unfolding_all rfl) : PT X (.Compare a [op, op'] [b, c] pos) (lfT X.K Z (dTst (dChain g g' fa fb fc))) := PTimp (pt_chain ho ho' ha hb hc hm) fun σ H Q h => by
  obtain ⟨M, s, b, s', rl, hf, k⟩ := h
  exact lift_chain ok ok' ⟨M, s, .bool b, s', rl, dTst_some hf, fun v H' k1 r1 t1 => ⟨b, t1.bool, k H' k1 r1⟩⟩

/-! ### arguments, displays, built-ins -/
def aNil : DA := fun s => some ([], s)
def aCons (f : DE) (g : DA) : DA := fun s => (f s).bind fun p => (g p.2).map fun q => (p.1 :: q.1, q.2)
theorem aCons_some {f : DE} {g : DA} {s s' : Sl} {ds : List PyData} (h : aCons f g s = some (ds, s')) : ∃ d s1 r, f s = some (d, s1) ∧ g s1 = some (r, s') ∧ ds = d :: r := by
  unfold aCons at h
  simp only [Option.bind_eq_some_iff, Option.map_eq_some_iff] at h
  obtain ⟨⟨d1, s1⟩, h1, ⟨r, s2⟩, h2, h3⟩ := h
  cases h3
  exact ⟨d1, s1, r, h1, h2, rfl⟩
variable {ga gb : DA}
theorem danil : PA X [] (lfA X.K Z aNil) := PAimp pa_nil fun σ H Q h => by
  obtain ⟨M, s, d, s', rl, hf, k⟩ := h
  cases hf
  exact k [] H (Kq.refl _ _ _) rl .nil
theorem dac (ha : PE X e (lft X.K Z fa)) (hb : PA X es (lfA X.K Z ga)) (hs : starEach (e :: es) X.env = (false, eval e X.env) :: starEach es X.env := by rfl) : PA X (e :: es) (lfA X.K Z (aCons fa ga)) := PAimp (pa_cons ha hb hs) fun σ H Q h => by
  obtain ⟨M, s, d, s', rl, hf, k⟩ := h
  obtain ⟨d1, s1, r, h1, h2, rfl⟩ := aCons_some hf
  exact ⟨M, s, d1, s1, rl, h1, fun v H1 k1 r1 t1 => ⟨M, s1, r, s', r1, h2, fun vs H2 k2 r2 t2 => k _ H2 (k1.trans k2) r2 (.cons (t1.mono k2.kp) t2)⟩⟩
def dTup (g : DA) : DE := fun s => (g s).bind fun p => if p.1.length ≤ sizeLine then some (.tuple p.1, p.2) else none
def dLst (g : DA) : DE := fun s => (g s).bind fun p => if p.1.length ≤ sizeLine then some (.list p.1, p.2) else none
def dB (g : List PyData → Option PyData) (f : DA) : DE := fun s => (f s).bind fun p => (g p.1).map fun d => (d, p.2)
theorem dTup_some {g : DA} {s s' : Sl} {d : PyData} (h : dTup g s = some (d, s')) : ∃ ds, g s = some (ds, s') ∧ ds.length ≤ sizeLine ∧ d = .tuple ds := by
  unfold dTup at h
  simp only [Option.bind_eq_some_iff] at h
  obtain ⟨⟨d1, s1⟩, h1, h2⟩ := h
  dsimp only at h2
  split at h2
  · cases h2; exact ⟨d1, h1, by assumption, rfl⟩
  · cases h2
theorem dLst_some {g : DA} {s s' : Sl} {d : PyData} (h : dLst g s = some (d, s')) : ∃ ds, g s = some (ds, s') ∧ ds.length ≤ sizeLine ∧ d = .list ds := by
  unfold dLst at h
  simp only [Option.bind_eq_some_iff] at h
  obtain ⟨⟨d1, s1⟩, h1, h2⟩ := h
  dsimp only at h2
  split at h2
  · cases h2; exact ⟨d1, h1, by assumption, rfl⟩
  · cases h2
theorem grow_new {H : Hp} {p : Addr} {o : HO} (h : H p = none) : ∀ a u, H a = some u → (upd H p o) a = some u := fun a u e => by
  rw [upd_ne (ne_of_none e h)]; exact e
theorem nomu_new {H : Hp} {mu : Addr → Prop} {p : Addr} (hm : ∀ a, mu a → ∃ o, H a = some o) (h : H p = none) : ¬ mu p := fun q => by
  obtain ⟨o, e⟩ := hm p q
  rw [h] at e; cases e
theorem dt_newT {K : PySem.W.Frag} {H : Hp} {mu : Addr → Prop} {p : Addr} {xs : List V} {ds : List PyData} {o : Obj} (ho : o.dict = none) (hm : ∀ a, mu a → ∃ o, H a = some o) (h : H p = none) (t : DtAll K mu H xs ds) : Dt K mu (upd H p (.frz o (.tup xs))) (.ref p) (.tuple ds) :=
  .tup ⟨o, upd_same, ho⟩ (nomu_new hm h) (t.mono (kp_grow (grow_new h)))
theorem dt_newL {K : PySem.W.Frag} {H : Hp} {mu : Addr → Prop} {p : Addr} {xs : List V} {ds : List PyData} (hm : ∀ a, mu a → ∃ o, H a = some o) (h : H p = none) (t : DtAll K mu H xs ds) : Dt K mu (upd H p (.lst xs)) (.ref p) (.list ds) :=
  .lst (.inl upd_same) (nomu_new hm h) (t.mono (kp_grow (grow_new h)))
theorem dtup {x1} (h : PA X es (lfA X.K Z ga)) : PE X (.Tuple es x1 pos) (lft X.K Z (dTup ga)) := PEimp (pe_tupF h) fun σ H Q h => by
  obtain ⟨M, s, d, s', rl, hf, k⟩ := h
  obtain ⟨ds, h1, hz, rfl⟩ := dTup_some hf
  refine ⟨M, s, ds, s', rl, h1, fun vs H1 k1 r1 t1 => ⟨by rw [t1.len]; exact hz, fun p o hp ho => ?_⟩⟩
  exact k _ _ (k1.trans (kq_grow (grow_new hp))) (r1.grow (grow_new hp)) (dt_newT ho r1.muT hp t1)
theorem dlst (h : PA X es (lfA X.K Z ga)) : PE X (.List es pos) (lft X.K Z (dLst ga)) := PEimp (pe_lst h) fun σ H Q h => by
  obtain ⟨M, s, d, s', rl, hf, k⟩ := h
  obtain ⟨ds, h1, hz, rfl⟩ := dLst_some hf
  refine ⟨M, s, ds, s', rl, h1, fun vs H1 k1 r1 t1 => ⟨by rw [t1.len]; exact hz, fun p hp => ?_⟩⟩
  exact k _ _ (k1.trans (kq_grow (grow_new hp))) (r1.grow (grow_new hp)) (dt_newL r1.muT hp t1)
theorem ddct : PE X (.Dict [] [] pos) (lft X.K Z (dC (.dict []))) := PEimp pe_dnewK fun σ H Q h => by
  obtain ⟨M, s, d, s', rl, hf, k⟩ := h
  cases hf
  intro p hp
  exact k _ _ (kq_grow (grow_new hp)) (rl.grow (grow_new hp)) (.dct upd_same (nomu_new rl.muT hp) .nil)
theorem lift_cb {r : List V → Hp → VK → Prop} {g : List PyData → Option PyData} (ok : CallOk X.K r g) {σ : L2.St} {H : Hp} {Q : VK} (h : lft X.K Z (dB g ga) σ H Q) : tCB r (lfA X.K Z ga) σ H Q := by
  obtain ⟨M, s, d, s', rl, hf, k⟩ := h
  unfold dB at hf
  simp only [Option.bind_eq_some_iff, Option.map_eq_some_iff] at hf
  obtain ⟨⟨ds, s1⟩, h1, d', h2, h3⟩ := hf
  cases h3
  refine ⟨M, s, ds, _, rl, h1, fun vs H1 k1 r1 t1 => ?_⟩
  exact ok (Mu Z M) H1 vs ds _ Q r1.muT t1 h2 fun v H3 g3 t3 => k v H3 (k1.trans (kq_grow g3)) (r1.grow g3) t3
theorem dcb {x : Str} {p : Pos} {id : String} {r : List V → Hp → VK → Prop} {g : List PyData → Option PyData} (hc : CallR X (.builtin id) r) (ok : CallOk X.K r g) (hg : Gl X x) (hm : X.mg x = none) (hv : bootBuiltins x = some (.builtin id)) (ha : PA X (e :: es) (lfA X.K Z ga)) (hn : x ≠ "__name__" := by decide)
    (hdb : (x == ("__debug__" : Str)) = false := by decide) (he : starEach (e :: es) X.env = (false, eval e X.env) :: starEach es X.env := by rfl) (hpl : (backTo pos (starEach es X.env)).any (·.1) = false := by rfl) : PE X (.Call (.Name x p) (e :: es) [] pos) (lft X.K Z (dB g ga)) :=
  PEimp (pe_callB hc hg hm hv ha hn hdb he hpl) fun _ _ _ h => lift_cb ok h
theorem dcty {x : Str} {p : Pos} {T : String} {r : List V → Hp → VK → Prop} {g : List PyData → Option PyData} (hc : CallR X (.type T) r) (ok : CallOk X.K r g) (hg : Gl X x) (hm : X.mg x = none) (hv : bootBuiltins x = some (.type T)) (ha : PA X (e :: es) (lfA X.K Z ga)) (hn : x ≠ "__name__" := by decide)
    (hdb : (x == ("__debug__" : Str)) = false := by decide) (he : starEach (e :: es) X.env = (false, eval e X.env) :: starEach es X.env := by rfl) (hpl : (backTo pos (starEach es X.env)).any (·.1) = false := by rfl) : PE X (.Call (.Name x p) (e :: es) [] pos) (lft X.K Z (dB g ga)) :=
  PEimp (pe_callTy hc hg hm hv ha hn hdb he hpl) fun _ _ _ h => lift_cb ok h
end
end Dl

namespace Dl
open PySem PySem.Spec PyProof.Rows L2

/-! ### protecting one more address -/
def Par.add (Z : Par) (p : Addr) : Par := { Z with m0 := fun a => Z.m0 a ∨ a = p }
section
variable {K : PySem.W.Frag} {Z : Par} {M M' : List Addr} {σ : L2.St} {H H' : Hp} {s s' : Sl} {p : Addr}
theorem mu_add {a : Addr} : Mu (Z.add p) M a ↔ Mu Z M a ∨ a = p := by
  unfold Mu Par.add
  constructor
  · rintro ((h | h) | h | h)
    · exact .inl (.inl h)
    · exact .inr h
    · exact .inl (.inr (.inl h))
    · exact .inl (.inr (.inr h))
  · rintro ((h | h | h) | h)
    · exact .inl (.inl h)
    · exact .inr (.inl h)
    · exact .inr (.inr h)
    · exact .inl (.inr h)
theorem mu_cons {a : Addr} : Mu Z (p :: M) a ↔ Mu Z M a ∨ a = p := by
  unfold Mu
  simp only [List.mem_cons]
  constructor
  · rintro (h | h | h | h)
    · exact .inl (.inl h)
    · exact .inl (.inr (.inl h))
    · exact .inr h
    · exact .inl (.inr (.inr h))
  · rintro ((h | h | h) | h)
    · exact .inl h
    · exact .inr (.inl h)
    · exact .inr (.inr (.inr h))
    · exact .inr (.inr (.inl h))
/-- a new object is laid and protected -/
theorem Rel.addNew (r : Rel K Z M σ H s) (hp : H p = none) (o : HO) : Rel K (Z.add p) M σ (upd H p o) s := by
  have g := grow_new (o := o) hp
  have k : Kp (Mu Z M) H (Mu (Z.add p) M) (upd H p o) := fun a u e n => ⟨g a u e, fun q => (mu_add.mp q).elim n (ne_of_none e hp)⟩
  refine ⟨fun a u e n => g a u (r.base a u e n), fun a h => ?_, fun a h => ?_, fun a h => let ⟨u, e⟩ := r.pt a h; ⟨u, g a u e⟩, ?_⟩
  · obtain ⟨h1, h2, h3, u, e⟩ := r.fr a h
    exact ⟨h1, h2, fun q => q.elim h3 (ne_of_none e hp), u, g a u e⟩
  · rcases h with h | h
    · obtain ⟨u, e⟩ := r.mz a h
      exact ⟨u, g a u e⟩
    · rw [h]; exact ⟨o, upd_same⟩
  · exact r.sl.kp k (M := M) (fun a xs _ e => g _ _ e) (fun a xs _ e => g _ _ e) (fun _ h => h)
theorem kp_addNew (hp : H p = none) (o : HO) : Kp (Mu Z M) H (Mu (Z.add p) M) (upd H p o) := fun a u e n => ⟨grow_new hp a u e, fun q => (mu_add.mp q).elim n (ne_of_none e hp)⟩
theorem kp_drop : Kp (Mu (Z.add p) M) H (Mu Z M) H := fun a u e n => ⟨e, fun q => n (mu_add.mpr (.inl q))⟩
theorem Rel.unadd (r : Rel K (Z.add p) M σ H s) : Rel K Z M σ H s :=
  ⟨r.base, fun a h => let ⟨h1, h2, h3, h4⟩ := r.fr a h; ⟨h1, h2, fun q => h3 (.inl q), h4⟩, fun a h => r.mz a (.inl h), r.pt, r.sl.kp kp_drop (M := M) (fun _ _ _ e => e) (fun _ _ _ e => e) (fun _ h => h)⟩
/-- the protected object is written -/
theorem Rel.wrAdd (r : Rel K (Z.add p) M σ H s) (hpp : p ∉ Z.p) (o : HO) (h0 : Z.H0 p = none) : Rel K (Z.add p) M σ (upd H p o) s := by
  have mup : Mu (Z.add p) M p := .inl (.inr rfl)
  have k : Kp (Mu (Z.add p) M) H (Mu (Z.add p) M) (upd H p o) := fun a u e n => ⟨by
    have na : a ≠ p := fun z => n (by rw [z]; exact mup)
    rw [upd_ne na]; exact e, n⟩
  have ex : ∀ a u, H a = some u → ∃ w, (upd H p o) a = some w := fun a u e => by
    by_cases h : a = p
    · rw [h]; exact ⟨o, upd_same⟩
    · exact ⟨u, by rw [upd_ne h]; exact e⟩
  refine ⟨fun a u e n => ?_, fun a h => ?_, fun a h => let ⟨u, e⟩ := r.mz a h; ex a u e, fun a h => let ⟨u, e⟩ := r.pt a h; ex a u e, ?_⟩
  · have na : a ≠ p := ne_of_none e h0
    rw [upd_ne na]
    exact r.base a u e n
  · obtain ⟨h1, h2, h3, u, e⟩ := r.fr a h
    exact ⟨h1, h2, h3, ex a u e⟩
  · refine r.sl.kp k (M := M) (fun a xs hm e => ?_) (fun a xs hq e => ?_) (fun _ h => h)
    · have na : a ≠ p := fun z => (r.fr a hm).2.2.1 (.inr z)
      rw [upd_ne na]; exact e
    · have na : a ≠ p := fun z => hpp (z ▸ hq)
      rw [upd_ne na]; exact e
/-- a protected new list becomes a name's own -/
theorem SlAll.setOwn {mu : Addr → Prop} {q : List Addr} {a : Addr} {xs : List V} {ds : List PyData} (h1 : H a = some (.lst xs)) (h2 : DtAll K mu H xs ds) {σ : L2.St} {s : Sl} {M : List Addr} (t : SlAll K mu q H σ s M) :
    ∀ (i : Nat), i < s.length → a ∉ M → ∃ M', (∀ b ∈ M', b ∈ M ∨ b = a) ∧ SlAll K mu q H (σ.set i (some (.ref a))) (s.set i (.own ds)) M' := by
  induction t with
  | nil => intro i hi _; exact absurd hi (Nat.not_lt_zero _)
  | dat h t ih =>
    intro i hi n
    cases i with
    | zero => exact ⟨_, fun b hb => (List.mem_cons.mp hb).elim .inr .inl, .own h1 h2 n t⟩
    | succ i =>
      obtain ⟨M', a1, b1⟩ := ih i (by simpa using hi) n
      exact ⟨M', a1, .dat h b1⟩
  | no t ih =>
    intro i hi n
    cases i with
    | zero => exact ⟨_, fun b hb => (List.mem_cons.mp hb).elim .inr .inl, .own h1 h2 n t⟩
    | succ i =>
      obtain ⟨M', a1, b1⟩ := ih i (by simpa using hi) n
      exact ⟨M', a1, .no b1⟩
  | rf t ih =>
    intro i hi n
    cases i with
    | zero => exact ⟨_, fun b hb => (List.mem_cons.mp hb).elim .inr .inl, .own h1 h2 n t⟩
    | succ i =>
      obtain ⟨M', a1, b1⟩ := ih i (by simpa using hi) n
      exact ⟨M', a1, .rf b1⟩
  | pot e h d t ih =>
    intro i hi n
    cases i with
    | zero => exact ⟨_, fun b hb => (List.mem_cons.mp hb).elim .inr .inl, .own h1 h2 n t⟩
    | succ i =>
      obtain ⟨M', a1, b1⟩ := ih i (by simpa using hi) n
      exact ⟨M', a1, .pot e h d b1⟩
  | tab e h d f t ih =>
    intro i hi n
    cases i with
    | zero => exact ⟨_, fun b hb => (List.mem_cons.mp hb).elim .inr .inl, .own h1 h2 n t⟩
    | succ i =>
      obtain ⟨M', a1, b1⟩ := ih i (by simpa using hi) n
      exact ⟨M', a1, .tab e h d f b1⟩
  | @dic c ct σ s M h m t ih =>
    intro i hi n
    cases i with
    | zero => exact ⟨_, fun b hb => (List.mem_cons.mp hb).elim .inr fun z => .inl (List.mem_cons_of_mem _ z), .own h1 h2 (fun z => n (List.mem_cons_of_mem _ z)) t⟩
    | succ i =>
      obtain ⟨M', a1, b1⟩ := ih i (by simpa using hi) (fun z => n (List.mem_cons_of_mem _ z))
      refine ⟨c :: M', fun b hb => ?_, .dic h (fun z => (a1 _ z).elim m fun w => n (w ▸ List.mem_cons_self)) b1⟩
      rcases List.mem_cons.mp hb with z | z
      · exact .inl (z ▸ List.mem_cons_self)
      · exact (a1 b z).elim (fun w => .inl (List.mem_cons_of_mem _ w)) .inr
  | @own c ys es σ s M h d m t ih =>
    intro i hi n
    cases i with
    | zero => exact ⟨_, fun b hb => (List.mem_cons.mp hb).elim .inr fun z => .inl (List.mem_cons_of_mem _ z), .own h1 h2 (fun z => n (List.mem_cons_of_mem _ z)) t⟩
    | succ i =>
      obtain ⟨M', a1, b1⟩ := ih i (by simpa using hi) (fun z => n (List.mem_cons_of_mem _ z))
      refine ⟨c :: M', fun b hb => ?_, .own h d (fun z => (a1 _ z).elim m fun w => n (w ▸ List.mem_cons_self)) b1⟩
      rcases List.mem_cons.mp hb with z | z
      · exact .inl (z ▸ List.mem_cons_self)
      · exact (a1 b z).elim (fun w => .inl (List.mem_cons_of_mem _ w)) .inr
theorem kp_addCons : Kp (Mu (Z.add p) M) H (Mu Z (p :: M)) H := fun a u e n => ⟨e, fun q => n (mu_add.mpr (mu_cons.mp q))⟩
theorem Rel.own (r : Rel K (Z.add p) M σ H s) (h0 : Z.H0 p = none) (hpp : p ∉ Z.p) (hm : ¬ Z.m0 p) {xs : List V} {ds : List PyData} (h1 : H p = some (.lst xs)) (h2 : DtAll K (Mu (Z.add p) M) H xs ds) (i : Nat) (hi : i < s.length) :
    ∃ M', Rel K Z M' (σ.set i (some (.ref p))) H (s.set i (.own ds)) ∧ ∀ c ∈ M', c ∈ M ∨ c = p := by
  have n : p ∉ M := fun z => (r.fr p z).2.2.1 (.inr rfl)
  obtain ⟨M', a, b⟩ := r.sl.setOwn h1 h2 i hi n
  have k : Kp (Mu (Z.add p) M) H (Mu Z M') H := fun c u e nn => ⟨e, fun q => nn (mu_add.mpr (by
    rcases q with q | q | q
    · exact .inl (.inl q)
    · exact .inl (.inr (.inl q))
    · exact (a c q).elim (fun w => .inl (.inr (.inr w))) .inr))⟩
  refine ⟨M', ⟨r.base, fun c hc => ?_, fun a h => r.mz a (.inl h), r.pt, b.kp k (M := M') (fun _ _ _ e => e) (fun _ _ _ e => e) (fun _ h => h)⟩, a⟩
  rcases a c hc with h | h
  · obtain ⟨h1, h2, h3, h4⟩ := r.fr c h
    exact ⟨h1, h2, fun q => h3 (.inl q), h4⟩
  · subst h
    exact ⟨h0, hpp, hm, _, h1⟩
end

/-! ### new lists -/
abbrev DF := Sl → Option (List PyData × Sl)
def lfF (K : PySem.W.Frag) (Z : Par) (f : DF) : TE := fun σ H Q => ∃ M s ds s', Rel K Z M σ H s ∧ f s = some (ds, s') ∧
  ∀ p xs H', H p = none → H' p = some (.lst xs) → Kq Z M H M H' → Rel K (Z.add p) M σ H' s' → DtAll K (Mu (Z.add p) M) H' xs ds → Q (.ref p) H'
def dL (f : DF) : DE := fun s => (f s).map fun p => (.list p.1, p.2)
def fLst (g : DA) : DF := fun s => (g s).bind fun p => if p.1.length ≤ sizeLine then some p else none
section
variable {X : Cx} {Z : Par} {a b e : Expr} {es : List Expr} {pos : Pos} {fa fb fc : DE} {ff : DF} {ga : DA}
theorem kp_free {mu mu' : Addr → Prop} {H H' : Hp} (hm : ∀ a, mu a → ∃ o, H a = some o) {p : Addr} (h : Kp mu H mu' H') : True := trivial
theorem dfr (h : PE X e (lfF X.K Z ff)) : PE X e (lft X.K Z (dL ff)) := PEimp h fun σ H Q h => by
  obtain ⟨M, s, d, s', rl, hf, k⟩ := h
  unfold dL at hf
  simp only [Option.map_eq_some_iff] at hf
  obtain ⟨⟨ds, s1⟩, h1, h2⟩ := hf
  cases h2
  refine ⟨M, s, ds, _, rl, h1, fun p xs H' hp hx k1 r1 t1 => k _ H' k1 r1.unadd (.lst (.inl hx) (fun q => ?_) (t1.mono kp_drop))⟩
  obtain ⟨o, e⟩ := rl.muT p q
  rw [hp] at e; cases e
theorem flst (h : PA X es (lfA X.K Z ga)) : PE X (.List es pos) (lfF X.K Z (fLst ga)) := PEimp (pe_lst h) fun σ H Q h => by
  obtain ⟨M, s, ds, s', rl, hf, k⟩ := h
  unfold fLst at hf
  simp only [Option.bind_eq_some_iff] at hf
  obtain ⟨⟨d1, s1⟩, h1, h2⟩ := hf
  dsimp only at h2
  split at h2
  · cases h2
    rename_i hz
    refine ⟨M, s, ds, _, rl, h1, fun vs H1 k1 r1 t1 => ⟨by rw [t1.len]; exact hz, fun p hp => ?_⟩⟩
    have hp0 : H p = none := by
      cases q : H p with
      | none => rfl
      | some o =>
        by_cases m : Mu Z M p
        · obtain ⟨u, e⟩ := r1.muT p m
          rw [hp] at e; cases e
        · have := (k1.kp p o q m).1
          rw [hp] at this; cases this
    exact k p vs _ hp0 upd_same (k1.trans (kq_grow (grow_new hp))) (r1.addNew hp _) (t1.mono (kp_addNew hp _))
  · cases h2
end

/-! ### statements -/
def sNil : DS := fun s => some (.nx s)
def sSeq (f g : DS) : DS := fun s => (f s).bind fun fl => match fl with
  | .nx s' => g s'
  | fl => some fl
def sSet (i : Nat) (f : DE) : DS := fun s => (f s).map fun p => .nx (p.2.set i (.dat p.1))
def sOwn (i : Nat) (f : DF) : DS := fun s => (f s).bind fun p => if i < p.2.length then some (.nx (p.2.set i (.own p.1))) else none
def sRet (f : DE) : DS := fun s => (f s).map fun p => .rt p.1 p.2
def sRetN : DS := fun s => some (.rt .none s)
def sIf (t : DT) (f g : DS) : DS := fun s => (t s).bind fun p => if p.1 = true then f p.2 else g p.2
def sDrop (f : DE) : DS := fun s => (f s).map fun p => .nx p.2
def sCont : DS := fun s => some (.ct s)
def sBrk : DS := fun s => some (.bk s)
/-- a name's own list is data from here on -/
def sFrz (i : Nat) : DS := fun s => match s[i]? with
  | some (.own ds) => some (.nx (s.set i (.dat (.list ds))))
  | _ => none
section
variable {X : Cx} {Z : Par} {a b e : Expr} {es : List Expr} {pos : Pos} {fa fb fc : DE} {ff : DF} {ga : DA} {st : Stmt} {sts : List Stmt} {f g : DS} {t : DT}
theorem FlOk.mono {K : PySem.W.Frag} {m0 m1 : List Addr} {H0 H1 : Hp} {D : Ends} (k : Kq Z m0 H0 m1 H1) : ∀ {fl : Fl}, FlOk K Z m0 H0 D fl → FlOk K Z m1 H1 D fl
  | .nx _, h => fun M σ H k1 r => h M σ H (k.trans k1) r
  | .rt _ _, h => fun M σ H v k1 r => h M σ H v (k.trans k1) r
  | .bk _, h => fun M σ H k1 r => h M σ H (k.trans k1) r
  | .ct _, h => fun M σ H k1 r => h M σ H (k.trans k1) r
theorem snil : PSs X [] (lfS X.K Z sNil) := PSsimp pss_nil fun D σ H h => by
  obtain ⟨M, s, fl, rl, hf, k⟩ := h
  cases hf
  exact k M σ H (Kq.refl _ _ _) rl
theorem lift_seq {K : PySem.W.Frag} {D : Ends} {σ : L2.St} {H : Hp} (h : lfS K Z (sSeq f g) D σ H) : tSeq (lfS K Z f) (lfS K Z g) D σ H := by
  obtain ⟨M, s, fl, rl, hf, k⟩ := h
  unfold sSeq at hf
  simp only [Option.bind_eq_some_iff] at hf
  obtain ⟨fl1, h1, h2⟩ := hf
  refine ⟨M, s, fl1, rl, h1, ?_⟩
  cases fl1 with
  | nx s1 => exact fun M1 σ1 H1 k1 r1 => ⟨M1, s1, fl, r1, h2, k.mono k1⟩
  | rt d s1 => cases h2; exact k
  | bk s1 => cases h2; exact k
  | ct s1 => cases h2; exact k
theorem scons (h1 : PS X st (lfS X.K Z f)) (h2 : PSs X sts (lfS X.K Z g)) : PSs X (st :: sts) (lfS X.K Z (sSeq f g)) := PSsimp (pss_cons h1 h2) fun _ _ _ h => lift_seq h
theorem sone (h1 : PS X st (lfS X.K Z f)) : PSs X [st] (lfS X.K Z f) := pss_one h1
theorem sset {i : Nat} {x : Str} {pos' : Pos} (hN : X.N.Nodup) (hi : X.N[i]? = some x) (hx : Loc X.env.scope x) (he : PE X e (lft X.K Z fa)) (hs : swapsWith e (some (.Name x pos')) pos.line X.env = pure false := by rfl)
    (hf : X.fn x = true ∨ X.env.scope.names.lookup x = some .local := by first | exact .inl rfl | exact .inr rfl | assumption) : PS X (.Assign [.Name x pos'] e pos) (lfS X.K Z (sSet i fa)) := PSimp (ps_set hN hi hx he hs hf) fun D σ H h => by
  obtain ⟨M, s, fl, rl, h1, k⟩ := h
  unfold sSet at h1
  simp only [Option.map_eq_some_iff] at h1
  obtain ⟨⟨d, s1⟩, h1, h2⟩ := h1
  cases h2
  refine ⟨M, s, d, s1, rl, h1, fun v H1 k1 r1 t1 => ?_⟩
  obtain ⟨M', _, r2, k2⟩ := r1.setDat t1 i
  exact k M' _ H1 (k1.trans k2) r2
theorem sown {i : Nat} {x : Str} {pos' : Pos} (hN : X.N.Nodup) (hi : X.N[i]? = some x) (hx : Loc X.env.scope x) (he : PE X e (lfF X.K Z ff)) (hs : swapsWith e (some (.Name x pos')) pos.line X.env = pure false := by rfl)
    (hf : X.fn x = true ∨ X.env.scope.names.lookup x = some .local := by first | exact .inl rfl | exact .inr rfl | assumption) : PS X (.Assign [.Name x pos'] e pos) (lfS X.K Z (sOwn i ff)) := PSimp (ps_set hN hi hx he hs hf) fun D σ H h => by
  obtain ⟨M, s, fl, rl, h1, k⟩ := h
  unfold sOwn at h1
  simp only [Option.bind_eq_some_iff] at h1
  obtain ⟨⟨ds, s1⟩, h1, h2⟩ := h1
  dsimp only at h2
  split at h2
  · cases h2
    rename_i hlt
    refine ⟨M, s, ds, s1, rl, h1, fun p xs H1 hp hx k1 r1 t1 => ?_⟩
    have npp : p ∉ Z.p := fun z => by
      obtain ⟨o, e⟩ := rl.pt p z
      rw [hp] at e; cases e
    have n0 : Z.H0 p = none := by
      cases q : Z.H0 p with
      | none => rfl
      | some o =>
        have := rl.base p o q npp
        rw [hp] at this; cases this
    have nm : ¬ Z.m0 p := fun z => by
      obtain ⟨o, e⟩ := rl.mz p z
      rw [hp] at e; cases e
    obtain ⟨M', r2, k2⟩ := r1.own n0 npp nm hx t1 i hlt
    exact k M' _ H1 (fun c u e n1 n2 => ⟨(k1 c u e n1 n2).1, fun z => (k2 c z).elim n2 (ne_of_none e hp)⟩) r2
  · cases h2
theorem sret (he : PE X e (lft X.K Z fa)) : PS X (.Return (some e) pos) (lfS X.K Z (sRet fa)) := PSimp (ps_ret he) fun D σ H h => by
  obtain ⟨M, s, fl, rl, h1, k⟩ := h
  unfold sRet at h1
  simp only [Option.map_eq_some_iff] at h1
  obtain ⟨⟨d, s1⟩, h1, h2⟩ := h1
  cases h2
  exact ⟨M, s, d, s1, rl, h1, fun v H1 k1 r1 t1 => k M σ H1 v k1 r1 t1⟩
theorem sretN : PS X (.Return none pos) (lfS X.K Z sRetN) := PSimp ps_retN fun D σ H h => by
  obtain ⟨M, s, fl, rl, h1, k⟩ := h
  cases h1
  exact k M σ H _ (Kq.refl _ _ _) rl .non
theorem sif {c : Expr} {xs ys : List Stmt} (hc : PT X c (lfT X.K Z t)) (ha : PSs X xs (lfS X.K Z f)) (hb : PSs X ys (lfS X.K Z g)) : PS X (.If c xs ys pos) (lfS X.K Z (sIf t f g)) := PSimp (ps_if hc ha hb) fun D σ H h => by
  obtain ⟨M, s, fl, rl, h1, k⟩ := h
  unfold sIf at h1
  simp only [Option.bind_eq_some_iff] at h1
  obtain ⟨⟨c1, s1⟩, h1, h2⟩ := h1
  refine ⟨M, s, c1, s1, rl, h1, fun H1 k1 r1 => ?_⟩
  cases c1 with
  | true => exact ⟨M, s1, fl, r1, h2, k.mono k1⟩
  | false => exact ⟨M, s1, fl, r1, h2, k.mono k1⟩
theorem sdrop (he : PE X e (lft X.K Z fa)) (hs : swapsWith e none pos.line X.env = pure false := by rfl) : PS X (.Expr e pos) (lfS X.K Z (sDrop fa)) := PSimp (ps_expr he hs) fun D σ H h => by
  obtain ⟨M, s, fl, rl, h1, k⟩ := h
  unfold sDrop at h1
  simp only [Option.map_eq_some_iff] at h1
  obtain ⟨⟨d, s1⟩, h1, h2⟩ := h1
  cases h2
  exact ⟨M, s, d, s1, rl, h1, fun v H1 k1 r1 t1 => k M σ H1 k1 r1⟩
theorem scont : PS X (.Continue pos) (lfS X.K Z sCont) := PSimp ps_continue fun D σ H h => by
  obtain ⟨M, s, fl, rl, h1, k⟩ := h
  cases h1
  exact k M σ H (Kq.refl _ _ _) rl
theorem sbrk : PS X (.Break pos) (lfS X.K Z sBrk) := PSimp ps_break fun D σ H h => by
  obtain ⟨M, s, fl, rl, h1, k⟩ := h
  cases h1
  exact k M σ H (Kq.refl _ _ _) rl
/-- .. freezing -/
theorem SlAll.frz {K : PySem.W.Frag} {mu : Addr → Prop} {q : List Addr} {H : Hp} {ds : List PyData} : ∀ {σ : L2.St} {s : Sl} {M : List Addr} (i : Nat), SlAll K mu q H σ s M → s[i]? = some (.own ds) →
    ∃ a xs M', σ[i]? = some (some (.ref a)) ∧ H a = some (.lst xs) ∧ DtAll K mu H xs ds ∧ a ∈ M ∧ a ∉ M' ∧ (∀ b ∈ M', b ∈ M) ∧ (∀ mu', (∀ b, mu' b → mu b) → ¬ mu' a → SlAll K mu' q H σ (s.set i (.dat (.list ds))) M')
  | _, _, _, _, .nil, e => by simp at e
  | _, _, _, 0, .dat h t, e => by simp at e
  | _, _, _, 0, .no t, e => by simp at e
  | _, _, _, 0, .rf t, e => by simp at e
  | _, _, _, 0, .pot .., e => by simp at e
  | _, _, _, 0, .own (a := a) (xs := xs) h d n t, e => by
    simp at e
    subst e
    refine ⟨a, xs, _, rfl, h, d, List.mem_cons_self, n, fun b hb => List.mem_cons_of_mem _ hb, fun mu' hs hn => ?_⟩
    have k : Kp mu H mu' H := fun c u e nn => ⟨e, fun z => nn (hs c z)⟩
    exact .dat (.lst (.inl h) hn (d.mono k)) (t.kp k (fun _ _ _ e => e) (fun _ _ _ e => e) (fun _ h => h))
  | _, _, _, i + 1, .dat h t, e => by
    obtain ⟨a, xs, M', h1, h2, h3, h4, h5, h6, h7⟩ := SlAll.frz i t (by simpa using e)
    exact ⟨a, xs, M', by simpa using h1, h2, h3, h4, h5, h6, fun mu' hs hn => .dat (h.mono fun c u e nn => ⟨e, fun z => nn (hs c z)⟩) (h7 mu' hs hn)⟩
  | _, _, _, i + 1, .no t, e => by
    obtain ⟨a, xs, M', h1, h2, h3, h4, h5, h6, h7⟩ := SlAll.frz i t (by simpa using e)
    exact ⟨a, xs, M', by simpa using h1, h2, h3, h4, h5, h6, fun mu' hs hn => .no (h7 mu' hs hn)⟩
  | _, _, _, i + 1, .rf t, e => by
    obtain ⟨a, xs, M', h1, h2, h3, h4, h5, h6, h7⟩ := SlAll.frz i t (by simpa using e)
    exact ⟨a, xs, M', by simpa using h1, h2, h3, h4, h5, h6, fun mu' hs hn => .rf (h7 mu' hs hn)⟩
  | _, _, _, i + 1, .own (a := c) h d n t, e => by
    obtain ⟨a, xs, M', h1, h2, h3, h4, h5, h6, h7⟩ := SlAll.frz i t (by simpa using e)
    refine ⟨a, xs, c :: M', by simpa using h1, h2, h3, List.mem_cons_of_mem _ h4, fun z => (List.mem_cons.mp z).elim (fun w => n (w ▸ h4)) h5, fun b hb => (List.mem_cons.mp hb).elim (fun w => w ▸ List.mem_cons_self) fun w => List.mem_cons_of_mem _ (h6 b w), fun mu' hs hn => ?_⟩
    exact .own h (d.mono fun c u e nn => ⟨e, fun z => nn (hs c z)⟩) (fun z => n (h6 c z)) (h7 mu' hs hn)
  | _, _, _, i + 1, .pot e1 h d t, e => by
    obtain ⟨a, xs, M', h1, h2, h3, h4, h5, h6, h7⟩ := SlAll.frz i t (by simpa using e)
    exact ⟨a, xs, M', by simpa using h1, h2, h3, h4, h5, h6, fun mu' hs hn => .pot e1 h (d.mono fun c u e nn => ⟨e, fun z => nn (hs c z)⟩) (h7 mu' hs hn)⟩
  | _, _, _, 0, .tab .., e => by simp at e
  | _, _, _, i + 1, .tab e1 h d f t, e => by
    obtain ⟨a, xs, M', h1, h2, h3, h4, h5, h6, h7⟩ := SlAll.frz i t (by simpa using e)
    exact ⟨a, xs, M', by simpa using h1, h2, h3, h4, h5, h6, fun mu' hs hn => .tab e1 h d (fun pos cv z => let ⟨c, g1, g2, g3⟩ := f pos cv z; ⟨c, g1, g2, fun w => g3 (hs c w)⟩) (h7 mu' hs hn)⟩
  | _, _, _, 0, .dic .., e => by simp at e
  | _, _, _, i + 1, .dic (a := c) h n t, e => by
    obtain ⟨a, xs, M', h1, h2, h3, h4, h5, h6, h7⟩ := SlAll.frz i t (by simpa using e)
    refine ⟨a, xs, c :: M', by simpa using h1, h2, h3, List.mem_cons_of_mem _ h4, fun z => (List.mem_cons.mp z).elim (fun w => n (w ▸ h4)) h5, fun b hb => (List.mem_cons.mp hb).elim (fun w => w ▸ List.mem_cons_self) fun w => List.mem_cons_of_mem _ (h6 b w), fun mu' hs hn => ?_⟩
    exact .dic (h.mono (fun c u e nn => ⟨e, fun z => nn (hs c z)⟩) fun _ e => e) (fun z => n (h6 c z)) (h7 mu' hs hn)
theorem sfrz {i : Nat} (h : PSs X sts (lfS X.K Z g)) : PSs X sts (lfS X.K Z (sSeq (sFrz i) g)) := PSsimp h fun D σ H h => by
  obtain ⟨M, s, fl, rl, h1, k⟩ := h
  unfold sSeq sFrz at h1
  simp only [Option.bind_eq_some_iff] at h1
  obtain ⟨fl1, h1, h2⟩ := h1
  split at h1
  · rename_i ds hs
    cases h1
    obtain ⟨a, xs, M', g1, g2, g3, g4, g5, g6, g7⟩ := rl.sl.frz i hs
    have sub : ∀ b, Mu Z M' b → Mu Z M b := fun b hb => by
      rcases hb with hb | hb | hb
      · exact .inl hb
      · exact .inr (.inl hb)
      · exact .inr (.inr (g6 b hb))
    have na : ¬ Mu Z M' a := fun hb => by
      rcases hb with hb | hb | hb
      · exact (rl.fr a g4).2.2.1 hb
      · exact (rl.fr a g4).2.1 hb
      · exact g5 hb
    have kk : Kq Z M H M' H := fun c u e _ nn => ⟨e, fun z => nn (g6 c z)⟩
    exact ⟨M', _, fl, ⟨rl.base, fun b hb => rl.fr b (g6 b hb), rl.mz, rl.pt, g7 _ sub na⟩, h2, k.mono kk⟩
  · cases h1
end
end Dl

namespace Dl
open PySem PySem.Spec PyProof.Rows L2

/-! ### lists that may be changed -/
def contents (s : Sl) (i : Nat) : Option (List PyData) := match s[i]? with
  | some (.own ds) => some ds
  | some (.pot _ ds) => some ds
  | _ => none
def potUp (k : Nat) (ds : List PyData) : SV → SV
  | .pot i es => if i = k then .pot i ds else .pot i es
  | x => x
def setC (s : Sl) (i : Nat) (ds : List PyData) : Sl := match s[i]? with
  | some (.own _) => s.set i (.own ds)
  | some (.pot k _) => s.map (potUp k ds)
  | _ => s
section
variable {K : PySem.W.Frag} {Z : Par} {M M' : List Addr} {σ : L2.St} {H H' : Hp} {s s' : Sl} {p : Addr} {mu : Addr → Prop} {q : List Addr}
theorem SlAll.wrOwn {ds' : List PyData} {xs' : List V} {a : Addr} (hk : Kp mu H mu H') (hs : ∀ b o, H b = some o → b ≠ a → H' b = some o) (h1 : H' a = some (.lst xs')) (h2 : DtAll K mu H' xs' ds') (hq : a ∉ q) {M : List Addr} (t : SlAll K mu q H σ s M) :
    ∀ (i : Nat) (ds : List PyData), s[i]? = some (.own ds) → σ[i]? = some (some (.ref a)) → SlAll K mu q H' σ (s.set i (.own ds')) M := by
  have rest : ∀ {σ : L2.St} {s : Sl} {M : List Addr}, a ∉ M → SlAll K mu q H σ s M → SlAll K mu q H' σ s M := fun {σ s M} n t =>
    t.kp hk (M := M) (fun b xs hb e => hs b _ e (fun z => n (z ▸ hb))) (fun b xs hb e => hs b _ e (fun z => hq (z ▸ hb))) (fun _ h => h)
  induction t with
  | nil => intro i ds e; simp at e
  | dat h t ih =>
    intro i ds e f
    cases i with
    | zero => simp at e
    | succ i => exact .dat (h.mono hk) (ih i ds (by simpa using e) (by simpa using f))
  | no t ih =>
    intro i ds e f
    cases i with
    | zero => simp at e
    | succ i => exact .no (ih i ds (by simpa using e) (by simpa using f))
  | rf t ih =>
    intro i ds e f
    cases i with
    | zero => simp at e
    | succ i => exact .rf (ih i ds (by simpa using e) (by simpa using f))
  | pot e0 h d t ih =>
    intro i ds e f
    cases i with
    | zero => simp at e
    | succ i => exact .pot e0 (hs _ _ h (fun z => hq (z ▸ List.mem_of_getElem? e0))) (d.mono hk) (ih i ds (by simpa using e) (by simpa using f))
  | tab e0 h d w t ih =>
    intro i ds e f
    cases i with
    | zero => simp at e
    | succ i => exact .tab e0 (hs _ _ h (fun z => hq (z ▸ List.mem_of_getElem? e0))) d (fun pos cv z => let ⟨c, g1, g2, g3⟩ := w pos cv z; ⟨c, g1, (hk _ _ g2 g3).1, (hk _ _ g2 g3).2⟩) (ih i ds (by simpa using e) (by simpa using f))
  | @dic c ct σ s M h m t ih =>
    intro i ds e f
    cases i with
    | zero => simp at e
    | succ i =>
      have nc : c ≠ a := fun z => by
        subst z
        obtain ⟨b, xs, g1, g2, _⟩ := t.getOwn (i := i) (by simpa using e)
        have : σ[i]? = some (some (.ref c)) := by simpa using f
        rw [this] at g1
        simp only [Option.some.injEq, V.ref.injEq] at g1
        exact m (g1 ▸ g2)
      exact .dic (h.mono hk fun o e => hs _ _ e nc) m (ih i ds (by simpa using e) (by simpa using f))
  | @own c ys es σ s M h d m t ih =>
    intro i ds e f
    cases i with
    | zero =>
      simp at f
      subst f
      exact .own h1 h2 m (rest m t)
    | succ i =>
      have nc : c ≠ a := fun z => by
        subst z
        obtain ⟨b, xs, g1, g2, _⟩ := t.getOwn (i := i) (by simpa using e)
        have : σ[i]? = some (some (.ref c)) := by simpa using f
        rw [this] at g1
        simp only [Option.some.injEq, V.ref.injEq] at g1
        exact m (g1 ▸ g2)
      exact .own (hs _ _ h nc) (d.mono hk) m (ih i ds (by simpa using e) (by simpa using f))
theorem SlAll.wrPot {k : Nat} {ds' : List PyData} {xs' : List V} {a : Addr} (hk : Kp mu H mu H') (hs : ∀ b o, H b = some o → b ≠ a → H' b = some o) (h1 : H' a = some (.lst xs')) (h2 : DtAll K mu H' xs' ds') (nd : q.Nodup) (hq : q[k]? = some a) (hl : ∃ xs, H a = some (.lst xs)) {M : List Addr} (t : SlAll K mu q H σ s M) (n : a ∉ M) :
    SlAll K mu q H' σ (s.map (potUp k ds')) M := by
  induction t with
  | nil => exact .nil
  | dat h t ih => exact .dat (h.mono hk) (ih n)
  | no t ih => exact .no (ih n)
  | rf t ih => exact .rf (ih n)
  | @pot i c ys es σ s M e0 h d t ih =>
    have eq : potUp k ds' (.pot i es) = if i = k then .pot i ds' else .pot i es := rfl
    rw [List.map_cons, eq]
    by_cases e : i = k
    · rw [if_pos e]
      subst e
      rw [hq] at e0
      cases e0
      exact .pot hq h1 h2 (ih n)
    · rw [if_neg e]
      refine .pot e0 (hs _ _ h fun z => e ?_) (d.mono hk) (ih n)
      subst z
      have l1 : i < q.length := (List.getElem?_eq_some_iff.mp e0).1
      exact (List.getElem?_inj l1 nd).mp (e0.trans hq.symm)
  | tab e0 h d w t ih =>
    refine .tab e0 (hs _ _ h fun z => ?_) d (fun pos cv z => let ⟨c, g1, g2, g3⟩ := w pos cv z; ⟨c, g1, (hk _ _ g2 g3).1, (hk _ _ g2 g3).2⟩) (ih n)
    subst z
    obtain ⟨xs, hl⟩ := hl
    rw [hl] at h
    cases h
  | own h d m t ih => exact .own (hs _ _ h (fun z => n (z ▸ List.mem_cons_self))) (d.mono hk) m (ih (fun z => n (List.mem_cons_of_mem _ z)))
  | dic h m t ih => exact .dic (h.mono hk fun o e => hs _ _ e (fun z => n (z ▸ List.mem_cons_self))) m (ih (fun z => n (List.mem_cons_of_mem _ z)))
theorem Rel.at (r : Rel K Z M σ H s) {i : Nat} {ds : List PyData} (h : contents s i = some ds) : ∃ a xs, σ[i]? = some (some (.ref a)) ∧ H a = some (.lst xs) ∧ DtAll K (Mu Z M) H xs ds ∧ Mu Z M a ∧
    ∀ H' xs' ds', H' a = some (.lst xs') → (∀ b o, H b = some o → b ≠ a → H' b = some o) → DtAll K (Mu Z M) H' xs' ds' → Rel K Z M σ H' (setC s i ds') ∧ Kq Z M H M H' := by
  unfold contents at h
  split at h
  · rename_i es hs
    cases h
    obtain ⟨a, xs, h1, h2, h3, h4⟩ := r.sl.getOwn hs
    have hmu : Mu Z M a := .inr (.inr h2)
    refine ⟨a, xs, h1, h3, h4, hmu, fun H' xs' ds' e1 e2 e3 => ?_⟩
    have k : Kp (Mu Z M) H (Mu Z M) H' := fun b o e n => ⟨e2 b o e (fun z => n (z ▸ hmu)), n⟩
    have ex : ∀ b o, H b = some o → ∃ u, H' b = some u := fun b o e => by
      by_cases z : b = a
      · rw [z]; exact ⟨_, e1⟩
      · exact ⟨o, e2 b o e z⟩
    refine ⟨⟨fun b o e n => e2 b o (r.base b o e n) (fun z => ?_), fun b hb => let ⟨f1, f2, f3, u, f4⟩ := r.fr b hb; ⟨f1, f2, f3, ex b u f4⟩, fun b hb => let ⟨u, f⟩ := r.mz b hb; ex b u f, fun b hb => let ⟨u, f⟩ := r.pt b hb; ex b u f, ?_⟩, fun b o e _ n => ⟨e2 b o e (fun z => n (z ▸ h2)), n⟩⟩
    · rw [z, (r.fr a h2).1] at e; cases e
    · unfold setC
      rw [hs]
      exact r.sl.wrOwn k e2 e1 e3 (r.fr a h2).2.1 i ds hs h1
  · rename_i kk es hs
    cases h
    obtain ⟨a, xs, h1, h2, h3, h4⟩ := r.sl.getPot hs
    have h2m := List.mem_of_getElem? h2
    have hmu : Mu Z M a := .inr (.inl h2m)
    refine ⟨a, xs, h1, h3, h4, hmu, fun H' xs' ds' e1 e2 e3 => ?_⟩
    have k : Kp (Mu Z M) H (Mu Z M) H' := fun b o e n => ⟨e2 b o e (fun z => n (z ▸ hmu)), n⟩
    have ex : ∀ b o, H b = some o → ∃ u, H' b = some u := fun b o e => by
      by_cases z : b = a
      · rw [z]; exact ⟨_, e1⟩
      · exact ⟨o, e2 b o e z⟩
    refine ⟨⟨fun b o e n => e2 b o (r.base b o e n) (fun z => n (z ▸ h2m)), fun b hb => let ⟨f1, f2, f3, u, f4⟩ := r.fr b hb; ⟨f1, f2, f3, ex b u f4⟩, fun b hb => let ⟨u, f⟩ := r.mz b hb; ex b u f, fun b hb => let ⟨u, f⟩ := r.pt b hb; ex b u f, ?_⟩, fun b o e n m => ⟨e2 b o e (fun z => n (z ▸ h2m)), m⟩⟩
    unfold setC
    rw [hs]
    exact r.sl.wrPot k e2 e1 e3 Z.nd h2 ⟨xs, h3⟩ (fun z => (r.fr a z).2.1 h2m)
  · cases h
end

/-- x[e], x a list that may be changed -/
def dIxC (i : Nat) (f : DE) : DE := fun s => (contents s i).bind fun _ => (f s).bind fun p => (contents p.2 i).bind fun ds => match p.1 with
  | .int k => (atI ds k).map fun d => (d, p.2)
  | _ => none
theorem atI_dt {K : PySem.W.Frag} {mu : Addr → Prop} {H : Hp} {xs : List V} {ds : List PyData} {k : Int} {d : PyData} (t : DtAll K mu H xs ds) (h : atI ds k = some d) : ∃ v, atI xs k = some v ∧ Dt K mu H v d := by
  unfold atI at h ⊢
  rw [t.len]
  simp only [Option.bind_eq_some_iff] at h ⊢
  obtain ⟨j, h1, h2⟩ := h
  obtain ⟨v, h3, h4⟩ := t.get h2
  exact ⟨v, ⟨j, h1, h3⟩, h4⟩
/-- texts, numbers, truths, None -/
def scalD : PyData → Bool
  | .none => true
  | .bool _ => true
  | .int _ => true
  | .str _ => true
  | _ => false
/-- e in x -/
def dInC (neg : Bool) (f : DE) (i : Nat) : DE := fun s => (f s).bind fun p => (contents p.2 i).bind fun ds => if scalD p.1 = true ∧ ds.all scalD = true then some (.bool (if neg then !ds.any (fun z => PyData.eqv z p.1) else ds.any fun z => PyData.eqv z p.1), p.2) else none
/-- x.append(e) -/
def sApp (i : Nat) (f : DE) : DS := fun s => (contents s i).bind fun _ => (f s).bind fun p => (contents p.2 i).bind fun ds => if ds.length < sizeLine then some (.nx (setC p.2 i (ds ++ [p.1]))) else none
/-- x[g] = f -/
def sSetIx (i : Nat) (f g : DE) : DS := fun s => (f s).bind fun p => (contents p.2 i).bind fun _ => (g p.2).bind fun q => (contents q.2 i).bind fun ds => match q.1 with
  | .int k => (ixN ds.length k).map fun j => .nx (setC q.2 i (ds.set j p.1))
  | _ => none
section
variable {X : Cx} {Z : Par} {a b e : Expr} {es : List Expr} {pos : Pos} {fa fb fc : DE} {ff : DF} {ga : DA} {st : Stmt} {sts : List Stmt} {f g : DS} {t : DT}
theorem dixC (i : Nat) (ha : PE X a (tVar i)) (hb : PE X b (lft X.K Z fb)) (hs : PlainIx b := by exact fun _ _ => rfl) : PE X (.Subscript a b pos) (lft X.K Z (dIxC i fb)) := PEimp (pe_ix ix_list ha hb hs) fun σ H Q h => by
  obtain ⟨M, s, d, s', rl, hf, k⟩ := h
  unfold dIxC at hf
  simp only [Option.bind_eq_some_iff] at hf
  obtain ⟨ds0, h0, ⟨d1, s1⟩, h1, ds, h2, h3⟩ := hf
  dsimp only at h2 h3
  split at h3
  · rename_i kk
    simp only [Option.map_eq_some_iff] at h3
    obtain ⟨d2, h3, h4⟩ := h3
    cases h4
    obtain ⟨a0, xs0, g1, _⟩ := rl.at h0
    refine ⟨.ref a0, g1, M, s, _, _, rl, h1, fun v H1 k1 r1 t1 => ?_⟩
    obtain ⟨a1, xs, e1, e2, e3, _⟩ := r1.at h2
    rw [g1] at e1
    cases e1
    obtain ⟨v2, e4, e5⟩ := atI_dt e3 h3
    exact ⟨a0, xs, kk, v2, rfl, t1.inti, .inl (.inl e2), e4, k _ H1 k1 r1 e5⟩
  · cases h3
theorem scal_v {K : PySem.W.Frag} {mu : Addr → Prop} {H : Hp} {v : V} {d : PyData} (t : Dt K mu H v d) (h : scalD d = true) : flatV v = true := by
  cases t <;> first | rfl | (exact absurd h (by simp [scalD]))
theorem scal_vs {K : PySem.W.Frag} {mu : Addr → Prop} {H : Hp} : ∀ {vs : List V} {ds : List PyData}, DtAll K mu H vs ds → ds.all scalD = true → vs.all flatV = true
  | _, _, .nil, _ => rfl
  | _, _, .cons h t, e => by
    rw [List.all_cons, Bool.and_eq_true] at e ⊢
    exact ⟨scal_v h e.1, scal_vs t e.2⟩
theorem scal_eq {K : PySem.W.Frag} {mu : Addr → Prop} {H : Hp} {v w : V} {d e : PyData} (t : Dt K mu H v d) (u : Dt K mu H w e) (h : scalD d = true) (h' : scalD e = true) : eqV v w = PyData.eqv d e := by
  cases d with
  | list _ => cases h
  | tuple _ => cases h
  | dict _ => cases h
  | none => cases t; cases e <;> first | (cases h'; done) | (cases u; simp [eqV, PyData.eqv])
  | bool _ => cases t; cases e <;> first | (cases h'; done) | (cases u; simp [eqV, PyData.eqv])
  | int _ => cases t; cases e <;> first | (cases h'; done) | (cases u; simp [eqV, PyData.eqv])
  | str _ => cases t; cases e <;> first | (cases h'; done) | (cases u; simp [eqV, PyData.eqv])
theorem scal_any {K : PySem.W.Frag} {mu : Addr → Prop} {H : Hp} {v : V} {d : PyData} (u : Dt K mu H v d) (h : scalD d = true) : ∀ {vs : List V} {ds : List PyData}, DtAll K mu H vs ds → ds.all scalD = true → inV v vs = ds.any fun z => PyData.eqv z d
  | _, _, .nil, _ => rfl
  | _, _, .cons g t, e => by
    rw [List.all_cons, Bool.and_eq_true] at e
    have ih := scal_any u h t e.2
    unfold inV at ih ⊢
    rw [List.any_cons, List.any_cons, ih, scal_eq g u e.1 h]
theorem dinC (neg : Bool) {op : CmpOp} (hop : OpR X (compareOp op) (rIn X.K neg)) (i : Nat) (ha : PE X a (lft X.K Z fa)) (hb : PE X b (tVar i)) (hm : behindInMarks op b = false) : PE X (.Compare a [op] [b] pos) (lft X.K Z (dInC neg fa i)) := PEimp (pe_cmpR hop ha hb hm) fun σ H Q h => by
  obtain ⟨M, s, d, s', rl, hf, k⟩ := h
  unfold dInC at hf
  simp only [Option.bind_eq_some_iff] at hf
  obtain ⟨⟨d1, s1⟩, h1, ds, h2, h3⟩ := hf
  dsimp only at h2 h3
  split at h3
  · rename_i hc
    cases h3
    refine ⟨M, s, d1, _, rl, h1, fun v H1 k1 r1 t1 => ?_⟩
    obtain ⟨a1, xs, e1, e2, e3, _⟩ := r1.at h2
    refine ⟨.ref a1, e1, a1, xs, rfl, .inl (.inl (.inl e2)), scal_v t1 hc.1, scal_vs e3 hc.2, ?_⟩
    rw [scal_any t1 hc.1 e3 hc.2]
    exact k _ H1 k1 r1 (.bl _)
  · cases h3
theorem dtinC (neg : Bool) {op : CmpOp} (hop : OpR X (compareOp op) (rIn X.K neg)) (i : Nat) (ha : PE X a (lft X.K Z fa)) (hb : PE X b (tVar i)) (hm : behindInMarks op b = false) : PT X (.Compare a [op] [b] pos) (lfT X.K Z (dTst (dInC neg fa i))) := PTimp (pt_cmpR hop ha hb hm) fun σ H Q h => by
  obtain ⟨M, s, d, s', rl, hf, k⟩ := h
  have hf := dTst_some hf
  unfold dInC at hf
  simp only [Option.bind_eq_some_iff] at hf
  obtain ⟨⟨d1, s1⟩, h1, ds, h2, h3⟩ := hf
  dsimp only at h2 h3
  split at h3
  · rename_i hc
    simp only [Option.some.injEq, Prod.mk.injEq, PyData.bool.injEq] at h3
    obtain ⟨h3, rfl⟩ := h3
    refine ⟨M, s, d1, _, rl, h1, fun v H1 k1 r1 t1 => ?_⟩
    obtain ⟨a1, xs, e1, e2, e3, _⟩ := r1.at h2
    refine ⟨.ref a1, e1, a1, xs, rfl, .inl (.inl (.inl e2)), scal_v t1 hc.1, scal_vs e3 hc.2, ?_⟩
    rw [scal_any t1 hc.1 e3 hc.2]
    exact ⟨_, rfl, by rw [h3]; exact k H1 k1 r1⟩
  · cases h3
theorem upd_lst {H : Hp} {a : Addr} {o : HO} : ∀ b u, H b = some u → b ≠ a → (upd H a o) b = some u := fun b u e n => by rw [upd_ne n]; exact e
theorem sapp (i : Nat) {apos cpos : Pos} (ha : PE X a (tVar i)) (hb : PE X b (lft X.K Z fb)) (hbase : attributeBase a "append" X.env (eval a X.env) = eval a X.env := by rfl)
    (hfew : ((backTo cpos (starEach [b] X.env)).all (fun x => !x.1) && (backToKw cpos (keywordEach [] X.env)).all (fun x => x.1.isSome) && decide (([b] : List Expr).length + ([] : List Keyword).length + (if ([] : List Keyword).isEmpty then 0 else 1) < 30)) = true := by rfl)
    (hline : (apos.endLine == cpos.line) = true := by rfl) (hs : starEach [b] X.env = (false, eval b X.env) :: starEach [] X.env := by rfl) (hplain : (backTo cpos (starEach [] X.env)).any (·.1) = false := by rfl)
    (hsw : swapsWith (.Call (.Attribute a "append" apos) [b] [] cpos) none pos.line X.env = pure false := by rfl) :
    PS X (.Expr (.Call (.Attribute a "append" apos) [b] [] cpos) pos) (lfS X.K Z (sApp i fb)) := PSimp (ps_expr (pe_bm PySem.F.plainAttrs_list PySem.F.slot_list_append PySem.F.type_list_append mt_append ha (pa_cons hb pa_nil hs) hbase hfew hline hs hplain) hsw) fun D σ H h => by
  obtain ⟨M, s, fl, rl, hf, k⟩ := h
  unfold sApp at hf
  simp only [Option.bind_eq_some_iff] at hf
  obtain ⟨ds0, h0, ⟨d1, s1⟩, h1, ds, h2, h3⟩ := hf
  dsimp only at h2 h3
  split at h3
  · rename_i hz
    cases h3
    obtain ⟨a0, xs0, g1, g2, _⟩ := rl.at h0
    refine ⟨.ref a0, g1, .inl ⟨rfl, _, .inl (.inl g2)⟩, M, s, d1, s1, rl, h1, fun v H1 k1 r1 t1 => ?_⟩
    obtain ⟨a1, xs, e1, e2, e3, _, e5⟩ := r1.at h2
    rw [g1] at e1
    cases e1
    refine ⟨a0, xs, v, rfl, rfl, e2, by rw [e3.len]; exact hz, ?_⟩
    have kk : Kp (Mu Z M) H1 (Mu Z M) (upd H1 a0 (.lst (xs ++ [v]))) := fun b o e n => ⟨upd_lst b o e (fun z => n (by subst z; assumption)), n⟩
    obtain ⟨r2, k2⟩ := e5 (upd H1 a0 (.lst (xs ++ [v]))) (xs ++ [v]) (ds ++ [d1]) upd_same upd_lst ((e3.append (.cons t1 .nil)).mono kk)
    exact k M σ _ (k1.trans k2) r2
  · cases h3
theorem ssetIx (i : Nat) {e1 c : Expr} {p1 : Pos} {fe fc : DE} (he : PE X e1 (lft X.K Z fe)) (ha : PE X a (tVar i)) (hc : PE X c (lft X.K Z fc))
    (h4 : ∀ v, assign (.Subscript a c p1) X.env v = (do
      let ov ← holding [v] (eval a X.env)
      let iv ← holding [v, ov] (eval c X.env)
      standAt p1
      holding [v, ov, iv] (setItem ov iv v)
      release [v, ov, iv] []) := by intro _; rfl)
    (hs : swapsWithSole [.Subscript a c p1] e1 pos.line X.env = pure false := by rfl) (hw : swappedStores [.Subscript a c p1] e1 X.env = pure none := by rfl) (h1 : (assignEach [.Subscript a c p1] X.env).map (·.2) = [assign (.Subscript a c p1) X.env] := by rfl) :
    PS X (.Assign [.Subscript a c p1] e1 pos) (lfS X.K Z (sSetIx i fe fc)) := PSimp (ps_asg he (pg_sub ha hc set_list h4) hs hw h1) fun D σ H h => by
  obtain ⟨M, s, fl, rl, hf, k⟩ := h
  unfold sSetIx at hf
  simp only [Option.bind_eq_some_iff] at hf
  obtain ⟨⟨d1, s1⟩, h1, ds0, h0, ⟨d2, s2⟩, h2, ds, h3, h4⟩ := hf
  dsimp only at h0 h2 h3 h4
  split at h4
  · rename_i kk
    simp only [Option.map_eq_some_iff] at h4
    obtain ⟨j, h4, h5⟩ := h4
    cases h5
    refine ⟨M, s, d1, _, rl, h1, fun v H1 k1 r1 t1 => ?_⟩
    obtain ⟨a0, xs0, g1, g2, _⟩ := r1.at h0
    refine ⟨.ref a0, g1, M, s1, _, s2, r1, h2, fun w H2 k2 r2 t2 => ?_⟩
    obtain ⟨a1, xs, e1, e2, e3, _, e5⟩ := r2.at h3
    rw [g1] at e1
    cases e1
    refine ⟨a0, xs, kk, j, rfl, t2.inti, e2, by rw [e3.len]; exact h4, ?_⟩
    have kk : Kp (Mu Z M) H2 (Mu Z M) (upd H2 a0 (.lst (xs.set j v))) := fun b o e n => ⟨upd_lst b o e (fun z => n (by subst z; assumption)), n⟩
    obtain ⟨r3, k3⟩ := e5 (upd H2 a0 (.lst (xs.set j v))) (xs.set j v) (ds.set j d1) upd_same upd_lst ((DtAll.set (t1.mono k2.kp) j e3).mono kk)
    exact k M σ _ (k1.trans (k2.trans k3)) r3
  · cases h4
end
end Dl

namespace Dl
open PySem PySem.Spec PyProof.Rows L2

/-! ### what is walked -/
def Yields (K : PySem.W.Frag) (mu : Addr → Prop) (H : Hp) (J : It) (ds : List PyData) : Prop := ∀ mu' H', Kp mu H mu' H' → ∀ i, (i < ds.length → J.go i H' ∧ ∀ x H'', J.yld i H' x H'' → H'' = H' ∧ ∃ d, ds[i]? = some d ∧ Dt K mu' H' x d) ∧ (ds.length ≤ i → J.stop i H')
theorem Yields.mono {K : PySem.W.Frag} {mu mu' : Addr → Prop} {H H' : Hp} {J : It} {ds : List PyData} (h : Yields K mu H J ds) (k : Kp mu H mu' H') : Yields K mu' H' J ds := fun m2 H2 k2 i => h m2 H2 (k.trans k2) i
def lfI (K : PySem.W.Frag) (Z : Par) (f : DF) : TI := fun σ H R => ∃ M s ds s', Rel K Z M σ H s ∧ f s = some (ds, s') ∧ ∀ J H', Kq Z M H M H' → Rel K Z M σ H' s' → Yields K (Mu Z M) H' J ds → R J H'
theorem PIimp {X : Cx} {tg e : Expr} {t t' : TI} (h : PI X tg e t) (i : ∀ σ H Q, t' σ H Q → t σ H Q) : PI X tg e t' := ⟨fun pins s σ H Q I q => h.run pins s σ H Q I (i σ H Q q)⟩
/-- a list, a tuple, a text's signs, a range's numbers -/
def itL (f : DE) : DF := fun s => (f s).bind fun p => match p.1 with
  | .list ds => some (ds, p.2)
  | _ => none
def itT (f : DE) : DF := fun s => (f s).bind fun p => match p.1 with
  | .tuple ds => some (ds, p.2)
  | _ => none
def signs (x : Str) : List PyData := x.cps.toList.map fun c => .str ⟨#[c]⟩
def itS (f : DE) : DF := fun s => (f s).bind fun p => match p.1 with
  | .str x => some (signs x, p.2)
  | _ => none
def rng (lo n : Int) : List PyData := (List.range (n - lo).toNat).map fun (k : Nat) => .int (lo + (k : Int))
def itR1 (f : DE) : DF := fun s => (f s).bind fun p => match p.1 with
  | .int n => if -(2 ^ 62) ≤ n ∧ n < 2 ^ 62 then some (rng 0 n, p.2) else none
  | _ => none
def itR2 (f g : DE) : DF := fun s => (f s).bind fun p => (g p.2).bind fun q => match p.1, q.1 with
  | .int lo, .int n => if (-(2 ^ 62) ≤ lo ∧ lo < 2 ^ 62) ∧ -(2 ^ 62) ≤ n ∧ n < 2 ^ 62 then some (rng lo n, q.2) else none
  | _, _ => none
section
variable {K : PySem.W.Frag} {mu : Addr → Prop} {H : Hp}
theorem yields_list {a : Addr} {ds : List PyData} (t : Dt K mu H (.ref a) (.list ds)) : Yields K mu H (Itl K a) ds := fun mu' H' k i => by
  obtain ⟨b, xs, e, h1, h2⟩ := (t.mono k).list
  cases e
  constructor
  · intro hi
    obtain ⟨v, g1, g2⟩ := h2.get (List.getElem?_eq_getElem hi)
    refine ⟨⟨xs, v, h1, g1⟩, fun x H'' hy => ⟨hy.1, _, List.getElem?_eq_getElem hi, ?_⟩⟩
    have e := hy.2 xs h1
    rw [g1] at e
    cases e
    exact g2
  · intro hi
    exact ⟨xs, h1, by rw [h2.len]; exact hi⟩
theorem yields_tup {a : Addr} {ds : List PyData} (t : Dt K mu H (.ref a) (.tuple ds)) : Yields K mu H (Itt K a) ds := fun mu' H' k i => by
  obtain ⟨b, xs, e, h1, h2⟩ := (t.mono k).tuple
  cases e
  constructor
  · intro hi
    obtain ⟨v, g1, g2⟩ := h2.get (List.getElem?_eq_getElem hi)
    refine ⟨⟨xs, v, h1, g1⟩, fun x H'' hy => ⟨hy.1, _, List.getElem?_eq_getElem hi, ?_⟩⟩
    have e := hy.2 xs h1
    rw [g1] at e
    cases e
    exact g2
  · intro hi
    exact ⟨xs, h1, by rw [h2.len]; exact hi⟩
theorem yields_str (x : Str) : Yields K mu H (Its x) (signs x) := fun mu' H' k i => by
  have hl : (signs x).length = x.cps.size := by unfold signs; rw [List.length_map, Array.length_toList]
  constructor
  · intro hi
    rw [hl] at hi
    refine ⟨hi, fun v H'' hy => ⟨hy.1, ?_⟩⟩
    obtain ⟨c, e1, e2⟩ := hy.2
    refine ⟨.str ⟨#[c]⟩, ?_, by rw [e2]; exact .str _⟩
    unfold signs
    rw [List.getElem?_map, Array.getElem?_toList, e1]
    rfl
  · intro hi
    rw [hl] at hi
    exact hi
theorem yields_rng (lo n : Int) : Yields K mu H (Itr lo (n - lo).toNat) (rng lo n) := fun mu' H' k i => by
  have hl : (rng lo n).length = (n - lo).toNat := by unfold rng; rw [List.length_map, List.length_range]
  constructor
  · intro hi
    rw [hl] at hi
    refine ⟨hi, fun v H'' hy => ⟨hy.1, .int (lo + (i : Int)), ?_, by rw [hy.2]; exact .int _⟩⟩
    unfold rng
    rw [List.getElem?_map, List.getElem?_range hi]
    rfl
  · intro hi
    rw [hl] at hi
    exact hi
end
section
variable {X : Cx} {Z : Par} {tg a b e : Expr} {es : List Expr} {pos : Pos} {fa fb fc : DE} {ff : DF} {ga : DA} {st : Stmt} {sts : List Stmt} {f g : DS} {t : DT}
theorem pil (h : PE X e (lft X.K Z fa)) : PI X tg e (lfI X.K Z (itL fa)) := PIimp (pi_list h) fun σ H R h => by
  obtain ⟨M, s, ds, s', rl, hf, k⟩ := h
  unfold itL at hf
  simp only [Option.bind_eq_some_iff] at hf
  obtain ⟨⟨d1, s1⟩, h1, h2⟩ := hf
  dsimp only at h2
  split at h2
  · cases h2
    refine ⟨M, s, _, _, rl, h1, fun v H1 k1 r1 t1 => ?_⟩
    obtain ⟨a, xs, rfl, g1, g2⟩ := t1.list
    exact ⟨a, rfl, ⟨xs, g1⟩, k _ H1 k1 r1 (yields_list t1)⟩
  · cases h2
theorem pit (h : PE X e (lft X.K Z fa)) : PI X tg e (lfI X.K Z (itT fa)) := PIimp (pi_tup h) fun σ H R h => by
  obtain ⟨M, s, ds, s', rl, hf, k⟩ := h
  unfold itT at hf
  simp only [Option.bind_eq_some_iff] at hf
  obtain ⟨⟨d1, s1⟩, h1, h2⟩ := hf
  dsimp only at h2
  split at h2
  · cases h2
    refine ⟨M, s, _, _, rl, h1, fun v H1 k1 r1 t1 => ?_⟩
    obtain ⟨a, xs, rfl, g1, g2⟩ := t1.tuple
    exact ⟨a, rfl, ⟨xs, g1⟩, k _ H1 k1 r1 (yields_tup t1)⟩
  · cases h2
theorem pis (h : PE X e (lft X.K Z fa)) : PI X tg e (lfI X.K Z (itS fa)) := PIimp (pi_str h) fun σ H R h => by
  obtain ⟨M, s, ds, s', rl, hf, k⟩ := h
  unfold itS at hf
  simp only [Option.bind_eq_some_iff] at hf
  obtain ⟨⟨d1, s1⟩, h1, h2⟩ := hf
  dsimp only at h2
  split at h2
  · rename_i x
    cases h2
    refine ⟨M, s, _, _, rl, h1, fun v H1 k1 r1 t1 => ?_⟩
    exact ⟨x, t1.text, k _ H1 k1 r1 (yields_str x)⟩
  · cases h2
theorem pir1 {p : Pos} (hg : Gl X "range") (hm : X.mg "range" = none) (h : PE X a (lft X.K Z fa)) (hs : starEach [a] X.env = [(false, eval a X.env)] := by rfl) : PI X tg (.Call (.Name "range" p) [a] [] pos) (lfI X.K Z (itR1 fa)) := PIimp (pi_range1 hg hm (pa_cons h pa_nil hs) hs) fun σ H R h => by
  obtain ⟨M, s, ds, s', rl, hf, k⟩ := h
  unfold itR1 at hf
  simp only [Option.bind_eq_some_iff] at hf
  obtain ⟨⟨d1, s1⟩, h1, h2⟩ := hf
  dsimp only at h2
  split at h2
  · rename_i n
    split at h2
    · rename_i hb
      cases h2
      refine ⟨M, s, _, _, rl, h1, fun v H1 k1 r1 t1 => ?_⟩
      refine ⟨n, by rw [t1.inti], hb.1, hb.2, ?_⟩
      have y : Yields X.K (Mu Z M) H1 (Itr 0 (n - 0).toNat) (rng 0 n) := yields_rng 0 n
      rw [show n - 0 = n from Int.sub_zero n] at y
      exact k _ H1 k1 r1 y
    · cases h2
  · cases h2
theorem pir2 {p : Pos} (hg : Gl X "range") (hm : X.mg "range" = none) (h : PE X a (lft X.K Z fa)) (h' : PE X b (lft X.K Z fb)) (hs : starEach [a, b] X.env = (false, eval a X.env) :: starEach [b] X.env := by rfl) (hs2 : starEach [b] X.env = [(false, eval b X.env)] := by rfl) : PI X tg (.Call (.Name "range" p) [a, b] [] pos) (lfI X.K Z (itR2 fa fb)) := PIimp (pi_range2 hg hm (pa_cons h (pa_cons h' pa_nil hs2) hs) (by rw [hs, hs2]) hs2) fun σ H R h => by
  obtain ⟨M, s, ds, s', rl, hf, k⟩ := h
  unfold itR2 at hf
  simp only [Option.bind_eq_some_iff] at hf
  obtain ⟨⟨d1, s1⟩, h1, ⟨d2, s2⟩, h2, h3⟩ := hf
  dsimp only at h2 h3
  split at h3
  · rename_i lo n
    split at h3
    · rename_i hb
      cases h3
      refine ⟨M, s, _, _, rl, h1, fun v H1 k1 r1 t1 => ⟨M, s1, _, _, r1, h2, fun w H2 k2 r2 t2 => ?_⟩⟩
      exact ⟨lo, n, by rw [t1.inti, t2.inti], ⟨hb.1.1, hb.1.2, hb.2.1, hb.2.2⟩, k _ H2 (k1.trans k2) r2 (yields_rng lo n)⟩
    · cases h3
  · cases h3
end

/-! ### targets -/
/-- a target stores what gd says -/
def TgOk (K : PySem.W.Frag) (g : TG) (gd : PyData → Sl → Option Sl) : Prop := ∀ (Z : Par) (M : List Addr) (σ : L2.St) (H : Hp) (s s' : Sl) (x : V) (d : PyData) (Q : L2.St → Hp → Prop), Rel K Z M σ H s → Dt K (Mu Z M) H x d → gd d s = some s' →
  (∀ M' σ', Rel K Z M' σ' H s' → Kq Z M H M' H → Q σ' H) → g x σ H Q
def tgN (i : Nat) : PyData → Sl → Option Sl := fun d s => some (s.set i (.dat d))
def tgTs : List (PyData → Sl → Option Sl) → List PyData → Sl → Option Sl
  | [], [], s => some s
  | g :: gs, d :: ds, s => (g d s).bind fun s' => tgTs gs ds s'
  | _, _, _ => none
def tgT (gs : List (PyData → Sl → Option Sl)) : PyData → Sl → Option Sl := fun d s => match d with
  | .tuple ds => tgTs gs ds s
  | _ => none
section
variable {K : PySem.W.Frag}
theorem tgn {i : Nat} : TgOk K (gName i) (tgN i) := fun Z M σ H s s' x d Q r t e k => by
  cases e
  obtain ⟨M', _, r2, k2⟩ := r.setDat t i
  exact k M' _ r2 k2
def TgsOk (K : PySem.W.Frag) (g : TGs) (gd : List PyData → Sl → Option Sl) : Prop := ∀ (Z : Par) (M : List Addr) (σ : L2.St) (H : Hp) (s s' : Sl) (xs : List V) (ds : List PyData) (Q : L2.St → Hp → Prop), Rel K Z M σ H s → DtAll K (Mu Z M) H xs ds → gd ds s = some s' →
  (∀ M' σ', Rel K Z M' σ' H s' → Kq Z M H M' H → Q σ' H) → g xs σ H Q
theorem tgsnil : TgsOk K gNil (tgTs []) := fun Z M σ H s s' xs ds Q r t e k => by
  cases ds with
  | nil => cases t; cases e; exact ⟨rfl, k M σ r (Kq.refl _ _ _)⟩
  | cons _ _ => cases e
theorem tgscons {g : TG} {gs : TGs} {gd : PyData → Sl → Option Sl} {gds : List (PyData → Sl → Option Sl)} (h : TgOk K g gd) (hs : TgsOk K gs (tgTs gds)) : TgsOk K (gCons g gs) (tgTs (gd :: gds)) := fun Z M σ H s s' xs ds Q r t e k => by
  cases ds with
  | nil => cases e
  | cons d ds =>
    cases t with
    | cons t1 t2 =>
      unfold tgTs at e
      simp only [Option.bind_eq_some_iff] at e
      obtain ⟨s1, e1, e2⟩ := e
      exact ⟨_, _, rfl, h Z M σ H s s1 _ d _ r t1 e1 fun M1 σ1 r1 k1 => hs Z M1 σ1 H s1 s' _ ds _ r1 (t2.mono k1.kp) e2 fun M2 σ2 r2 k2 => k M2 σ2 r2 (k1.trans k2)⟩
theorem tgTs_len : ∀ {gds : List (PyData → Sl → Option Sl)} {ds : List PyData} {s s' : Sl}, tgTs gds ds s = some s' → ds.length = gds.length
  | [], [], _, _, _ => rfl
  | [], _ :: _, _, _, e => by cases e
  | _ :: _, [], _, _, e => by cases e
  | g :: gs, d :: ds, s, s', e => by
    unfold tgTs at e
    simp only [Option.bind_eq_some_iff] at e
    obtain ⟨s1, _, e2⟩ := e
    rw [List.length_cons, List.length_cons, tgTs_len e2]
theorem tgt {n : Nat} {gs : TGs} {gds : List (PyData → Sl → Option Sl)} (hn : n = gds.length) (hs : TgsOk K gs (tgTs gds)) : TgOk K (gTup K n gs) (tgT gds) := fun Z M σ H s s' x d Q r t e k => by
  unfold tgT at e
  split at e
  · rename_i ds
    obtain ⟨a, xs, rfl, h1, h2⟩ := t.tuple
    exact ⟨a, xs, rfl, h1, by rw [h2.len, tgTs_len e, hn], hs Z M σ H s s' xs ds Q r h2 e k⟩
  · cases e
end

/-! ### for -/
def runFor (gd : PyData → Sl → Option Sl) (b : DS) : List PyData → Sl → Option Fl
  | [], s => some (.nx s)
  | d :: r, s => (gd d s).bind fun s1 => (b s1).bind fun fl => match fl with
    | .nx s' => runFor gd b r s'
    | .ct s' => runFor gd b r s'
    | .bk s' => some (.nx s')
    | .rt d s' => some (.rt d s')
def sFor (fi : DF) (gd : PyData → Sl → Option Sl) (b : DS) : DS := fun s => (fi s).bind fun p => runFor gd b p.1 p.2
def sAsg (f : DE) (gd : PyData → Sl → Option Sl) : DS := fun s => (f s).bind fun p => (gd p.1 p.2).map fun s' => .nx s'
section
variable {X : Cx} {Z : Par} {tg a b e : Expr} {es : List Expr} {pos : Pos} {fa fb fc : DE} {ff : DF} {ga : DA} {st : Stmt} {sts : List Stmt} {f : DS} {t : DT} {g : TG} {gd : PyData → Sl → Option Sl}
theorem lift_for {K : PySem.W.Frag} (hg : TgOk K g gd) {D : Ends} {σ : L2.St} {H : Hp} (h : lfS K Z (sFor ff gd f) D σ H) : tFor (lfI K Z ff) g (lfS K Z f) D σ H := by
  obtain ⟨M, s, fl, rl, hf, k⟩ := h
  unfold sFor at hf
  simp only [Option.bind_eq_some_iff] at hf
  obtain ⟨⟨ds, s1⟩, h1, h2⟩ := hf
  dsimp only at h2
  refine ⟨M, s, ds, s1, rl, h1, fun J H1 k1 r1 y => ?_⟩
  refine ⟨fun i m σ' H' => m = ds.length - i ∧ i ≤ ds.length ∧ ∃ M' s', Kq Z M H1 M' H' ∧ Rel K Z M' σ' H' s' ∧ runFor gd f (ds.drop i) s' = some fl, ⟨ds.length, by simp, Nat.zero_le _, M, s1, Kq.refl _ _ _, r1, h2⟩, ?_⟩
  rintro i m σ' H' ⟨rfl, hi, M', s', k2, r2, h3⟩
  by_cases hlt : i < ds.length
  · have ed : ds.drop i = ds[i] :: ds.drop (i + 1) := List.drop_eq_getElem_cons hlt
    rw [ed] at h3
    unfold runFor at h3
    simp only [Option.bind_eq_some_iff] at h3
    obtain ⟨s2, e1, fl1, e2, e3⟩ := h3
    refine .inr ⟨((y _ _ k2.kp i).1 hlt).1, fun σ3 H3 => ∃ M3 s3, Kq Z M H1 M3 H3 ∧ Rel K Z M3 σ3 H3 s3 ∧ runFor gd f (ds.drop (i + 1)) s3 = some fl, fun σ3 H3 q => ⟨ds.length - (i + 1), by omega, rfl, hlt, q⟩, fun x H'' hy => ?_⟩
    obtain ⟨rfl, d, e4, e5⟩ := ((y _ _ k2.kp i).1 hlt).2 x H'' hy
    rw [List.getElem?_eq_getElem hlt] at e4
    cases e4
    refine hg Z M' σ' _ s' s2 x _ _ r2 e5 e1 fun M3 σ3 r3 k3 => ?_
    refine ⟨M3, s2, fl1, r3, e2, ?_⟩
    have kk : Kq Z M H M3 _ := k1.trans (k2.trans k3)
    cases fl1 with
    | nx s4 => exact fun M4 σ4 H4 k4 r4 => ⟨M4, s4, k2.trans (k3.trans k4), r4, e3⟩
    | ct s4 => exact fun M4 σ4 H4 k4 r4 => ⟨M4, s4, k2.trans (k3.trans k4), r4, e3⟩
    | bk s4 => cases e3; exact fun M4 σ4 H4 k4 r4 => k M4 σ4 H4 (kk.trans k4) r4
    | rt d4 s4 => cases e3; exact fun M4 σ4 H4 v4 k4 r4 t4 => k M4 σ4 H4 v4 (kk.trans k4) r4 t4
  · have e : i = ds.length := by omega
    subst e
    rw [List.drop_length] at h3
    cases h3
    exact .inl ⟨(y _ _ k2.kp _).2 (Nat.le_refl _), k M' σ' H' (k1.trans k2) r2⟩
theorem sfor {iter : Expr} {body : List Stmt} (hp : PassesOwn (model X.prog X.w) X.A X.env X.xe) (hc : X.calm = true) (hi : PI X tg iter (lfI X.K Z ff)) (hg : PG X tg g) (hgd : TgOk X.K g gd) (hb : PSs X body (lfS X.K Z f))
    (hs : ∀ x, foldedSetIterable iter X.env x = pure x := by intro _; rfl) : PS X (.For tg iter body [] pos) (lfS X.K Z (sFor ff gd f)) := PSimp (ps_for hp hc hi hg hb hs) fun _ _ _ h => lift_for hgd h
/-- a, b = e -/
theorem sasg (he : PE X e (lft X.K Z fa)) (hg : PG X tg g) (hgd : TgOk X.K g gd) (hs : swapsWithSole [tg] e pos.line X.env = pure false := by rfl) (hw : swappedStores [tg] e X.env = pure none := by rfl)
    (h1 : (assignEach [tg] X.env).map (·.2) = [assign tg X.env] := by rfl) : PS X (.Assign [tg] e pos) (lfS X.K Z (sAsg fa gd)) := PSimp (ps_asg he hg hs hw h1) fun D σ H h => by
  obtain ⟨M, s, fl, rl, hf, k⟩ := h
  unfold sAsg at hf
  simp only [Option.bind_eq_some_iff, Option.map_eq_some_iff] at hf
  obtain ⟨⟨d, s1⟩, h1, s2, h2, h3⟩ := hf
  cases h3
  exact ⟨M, s, d, s1, rl, h1, fun v H1 k1 r1 t1 => hgd Z M σ H1 s1 s2 v d _ r1 t1 h2 fun M' σ' r2 k2 => k M' σ' H1 (k1.trans k2) r2⟩
/-- a, b = x, y -/
def sPar (i j : Nat) (f g : DE) : DS := fun s => (f s).bind fun p => (g p.2).map fun q => .nx ((q.2.set i (.dat p.1)).set j (.dat q.1))
theorem spar {i j : Nat} {x y : Str} {px py pt : Pos} {kt k2 pt2} (hc : X.calm = true) (hN : X.N.Nodup) (hi : X.N[i]? = some x) (hj : X.N[j]? = some y) (hij : i ≠ j)
    (hx : X.env.scope.names.lookup x = some .local) (hy : X.env.scope.names.lookup y = some .local) (ha : PE X a (lft X.K Z fa)) (hb : PE X b (lft X.K Z fb))
    (hw : swappedStores [.Tuple [.Name x px, .Name y py] kt pt] (.Tuple [a, b] k2 pt2) X.env = pure (some [x, y]))
    (hs : swapsWithSole [.Tuple [.Name x px, .Name y py] kt pt] (.Tuple [a, b] k2 pt2) pos.line X.env = pure false := by rfl) (hs1 : starEach [a, b] X.env = (false, eval a X.env) :: starEach [b] X.env := by rfl) (hs2 : starEach [b] X.env = (false, eval b X.env) :: starEach [] X.env := by rfl) :
    PS X (.Assign [.Tuple [.Name x px, .Name y py] kt pt] (.Tuple [a, b] k2 pt2) pos) (lfS X.K Z (sPar i j fa fb)) := PSimp (ps_par hc hN hi hj hij hx hy (pa_cons ha (pa_cons hb pa_nil hs2) hs1) hw hs) fun D σ H h => by
  obtain ⟨M, s, fl, rl, hf, k⟩ := h
  unfold sPar at hf
  simp only [Option.bind_eq_some_iff, Option.map_eq_some_iff] at hf
  obtain ⟨⟨d, s1⟩, h1, ⟨d2, s2⟩, h2, h3⟩ := hf
  cases h3
  refine ⟨M, s, d, s1, rl, h1, fun v H1 k1 r1 t1 => ⟨M, s1, d2, s2, r1, h2, fun w H2 k2 r2 t2 => ⟨v, w, rfl, ?_⟩⟩⟩
  obtain ⟨M3, _, r3, k3⟩ := r2.setDat (t1.mono k2.kp) i
  obtain ⟨M4, _, r4, k4⟩ := r3.setDat (t2.mono k3.kp) j
  exact k M4 _ H2 (k1.trans (k2.trans (k3.trans k4))) r4
end
end Dl

namespace Dl
open PySem PySem.Spec PyProof.Rows L2

/-! ### comprehensions, one name -/
def isNo : Option SV → Bool
  | some .no => true
  | _ => false
theorem isNo_eq {x : Option SV} (h : isNo x = true) : x = some .no := by
  unfold isNo at h
  split at h
  · rfl
  · cases h
def notOwn : Option SV → Bool
  | some (.own _) => false
  | some (.dic _) => false
  | _ => true
def NoOwn (x : Option SV) : Prop := (∀ ds, x ≠ some (.own ds)) ∧ (∀ c, x ≠ some (.dic c))
theorem notOwn_ne {x : Option SV} (h : notOwn x = true) : NoOwn x := ⟨fun ds e => (by rw [e] at h; cases h), fun c e => (by rw [e] at h; cases h)⟩
def lcRun (j : Nat) (t : DT) (f : DE) : List PyData → Sl → Option (List PyData × Sl)
  | [], s => some ([], s)
  | d :: r, s => (t (s.set j (.dat d))).bind fun p => if notOwn p.2[j]? = true then (if p.1 = true then (f p.2).bind fun q => if notOwn q.2[j]? = true then (lcRun j t f r q.2).map fun w => (q.1 :: w.1, w.2) else none else lcRun j t f r p.2) else none
/-- the comprehension's slot j; what a turn leaves there is forgotten -/
def fLc (fi : DF) (j : Nat) (t : DT) (f : DE) : DF := fun s => (fi s).bind fun p => if isNo p.2[j]? = true ∧ p.1.length < sizeLine then (lcRun j t f p.1 p.2).map fun q => (q.1, q.2.set j .no) else none
def tYesD : DT := fun s => some (true, s)
section
variable {K : PySem.W.Frag} {Z : Par} {M M' : List Addr} {σ : L2.St} {H H' : Hp} {s s' : Sl} {p : Addr} {mu : Addr → Prop} {q : List Addr}
/-- a slot of which nothing is known may hold anything -/
theorem SlAll.anyNo {x : Option V} : ∀ {σ : L2.St} {s : Sl} {M : List Addr} (j : Nat), SlAll K mu q H σ s M → s[j]? = some .no → SlAll K mu q H (σ.set j x) s M
  | _, _, _, _, .nil, e => by simp at e
  | _, _, _, 0, .dat h t, e => by simp at e
  | _, _, _, 0, .no t, e => .no t
  | _, _, _, 0, .rf t, e => by simp at e
  | _, _, _, 0, .own h d n t, e => by simp at e
  | _, _, _, 0, .pot e0 h d t, e => by simp at e
  | _, _, _, j + 1, .dat h t, e => .dat h (SlAll.anyNo j t (by simpa using e))
  | _, _, _, j + 1, .no t, e => .no (SlAll.anyNo j t (by simpa using e))
  | _, _, _, j + 1, .rf t, e => .rf (SlAll.anyNo j t (by simpa using e))
  | _, _, _, j + 1, .own h d n t, e => .own h d n (SlAll.anyNo j t (by simpa using e))
  | _, _, _, j + 1, .pot e0 h d t, e => .pot e0 h d (SlAll.anyNo j t (by simpa using e))
  | _, _, _, 0, .tab .., e => by simp at e
  | _, _, _, j + 1, .tab e0 h d f t, e => .tab e0 h d f (SlAll.anyNo j t (by simpa using e))
  | _, _, _, 0, .dic h n t, e => by simp at e
  | _, _, _, j + 1, .dic h n t, e => .dic h n (SlAll.anyNo j t (by simpa using e))
/-- .. a slot is forgotten (no list of its own) -/
theorem SlAll.forget {x : Option V} : ∀ {σ : L2.St} {s : Sl} {M : List Addr} (j : Nat), SlAll K mu q H σ s M → NoOwn s[j]? → SlAll K mu q H (σ.set j x) (s.set j .no) M
  | _, _, _, _, .nil, e => .nil
  | _, _, _, 0, .dat h t, e => .no t
  | _, _, _, 0, .no t, e => .no t
  | _, _, _, 0, .rf t, e => .no t
  | _, _, _, 0, .own h d n t, e => absurd rfl (e.1 _)
  | _, _, _, 0, .pot e0 h d t, e => .no t
  | _, _, _, j + 1, .dat h t, e => .dat h (SlAll.forget j t (by simpa using e))
  | _, _, _, j + 1, .no t, e => .no (SlAll.forget j t (by simpa using e))
  | _, _, _, j + 1, .rf t, e => .rf (SlAll.forget j t (by simpa using e))
  | _, _, _, j + 1, .own h d n t, e => .own h d n (SlAll.forget j t (by simpa using e))
  | _, _, _, j + 1, .pot e0 h d t, e => .pot e0 h d (SlAll.forget j t (by simpa using e))
  | _, _, _, 0, .tab e0 h d f t, e => .no t
  | _, _, _, j + 1, .tab e0 h d f t, e => .tab e0 h d f (SlAll.forget j t (by simpa using e))
  | _, _, _, 0, .dic h n t, e => absurd rfl (e.2 _)
  | _, _, _, j + 1, .dic h n t, e => .dic h n (SlAll.forget j t (by simpa using e))
theorem SlAll.putDat {v : V} {d : PyData} (hv : Dt K mu H v d) : ∀ {σ : L2.St} {s : Sl} {M : List Addr} (j : Nat), SlAll K mu q H σ s M → NoOwn s[j]? → SlAll K mu q H (σ.set j (some v)) (s.set j (.dat d)) M
  | _, _, _, _, .nil, e => .nil
  | _, _, _, 0, .dat h t, e => .dat hv t
  | _, _, _, 0, .no t, e => .dat hv t
  | _, _, _, 0, .rf t, e => .dat hv t
  | _, _, _, 0, .own h d n t, e => absurd rfl (e.1 _)
  | _, _, _, 0, .pot e0 h d t, e => .dat hv t
  | _, _, _, j + 1, .dat h t, e => .dat h (SlAll.putDat hv j t (by simpa using e))
  | _, _, _, j + 1, .no t, e => .no (SlAll.putDat hv j t (by simpa using e))
  | _, _, _, j + 1, .rf t, e => .rf (SlAll.putDat hv j t (by simpa using e))
  | _, _, _, j + 1, .own h d n t, e => .own h d n (SlAll.putDat hv j t (by simpa using e))
  | _, _, _, j + 1, .pot e0 h d t, e => .pot e0 h d (SlAll.putDat hv j t (by simpa using e))
  | _, _, _, 0, .tab e0 h d f t, e => .dat hv t
  | _, _, _, j + 1, .tab e0 h d f t, e => .tab e0 h d f (SlAll.putDat hv j t (by simpa using e))
  | _, _, _, 0, .dic h n t, e => absurd rfl (e.2 _)
  | _, _, _, j + 1, .dic h n t, e => .dic h n (SlAll.putDat hv j t (by simpa using e))
theorem Rel.withSl (r : Rel K Z M σ H s) {σ' : L2.St} {s' : Sl} (h : SlAll K (Mu Z M) Z.p H σ' s' M) : Rel K Z M σ' H s' := ⟨r.base, r.fr, r.mz, r.pt, h⟩
theorem set_no {s : Sl} {j : Nat} (h : s[j]? = some .no) : s.set j .no = s := by
  apply List.ext_getElem?
  intro i
  by_cases e : i = j
  · subst e
    have hl : i < s.length := (List.getElem?_eq_some_iff.mp h).1
    rw [List.getElem?_set_self hl, h]
  · rw [List.getElem?_set_ne (Ne.symm e)]
end
section
variable {X : Cx} {Z : Par} {tg a b e : Expr} {es : List Expr} {pos : Pos} {fa fb fc : DE} {ff : DF} {ga : DA} {st : Stmt} {sts : List Stmt} {f : DS} {t : DT} {g : TG} {gd : PyData → Sl → Option Sl}
theorem wipe1 (σ : L2.St) (j : Nat) : wipe σ [j] = σ.set j none := rfl
theorem lift_lc {K : PySem.W.Frag} {j : Nat} {σ : L2.St} {H : Hp} {Q : VK} {T : TT} {E : TE} (hT : ∀ D σ H Q, lfT K (Z.add D) t σ H Q → T σ H Q) (hE : ∀ D σ H Q, lft K (Z.add D) fa σ H Q → E σ H Q) (h : lfF K Z (fLc ff j t fa) σ H Q) : tLc (lfI K Z ff) (gName j) T E [j] σ H Q := by
  obtain ⟨M, s, ds, s', rl, hf, k⟩ := h
  unfold fLc at hf
  simp only [Option.bind_eq_some_iff] at hf
  obtain ⟨⟨is, s1⟩, h1, h2⟩ := hf
  dsimp only at h2
  split at h2
  · rename_i hc
    simp only [Option.map_eq_some_iff] at h2
    obtain ⟨⟨os, s2⟩, h2, h3⟩ := h2
    cases h3
    have hc1 := isNo_eq hc.1
    refine ⟨M, s, is, s1, rl, h1, fun J H1 k1 r1 y D hD => ?_⟩
    have hD0 : H D = none := by
      cases q : H D with
      | none => rfl
      | some o =>
        by_cases m : Mu Z M D
        · obtain ⟨u, e⟩ := r1.muT D m
          rw [hD] at e; cases e
        · have := (k1.kp D o q m).1
          rw [hD] at this; cases this
    have npp : D ∉ Z.p := fun z => by
      obtain ⟨o, e⟩ := r1.pt D z
      rw [hD] at e; cases e
    have nDM : D ∉ M := fun z => by
      obtain ⟨_, _, _, o, e⟩ := r1.fr D z
      rw [hD] at e; cases e
    have n0 : Z.H0 D = none := by
      cases q : Z.H0 D with
      | none => rfl
      | some o =>
        have := r1.base D o q npp
        rw [hD] at this; cases this
    have y1 : Yields K (Mu (Z.add D) M) (upd H1 D (.lst [])) J is := y.mono (kp_addNew hD _)
    -- all that stood, but D, stands
    let Kd : Hp → Prop := fun H' => ∀ a o, H1 a = some o → a ∉ Z.p → a ∉ M → H' a = some o
    have kdy : ∀ {H'}, Kd H' → Kp (Mu Z M) H1 (Mu (Z.add D) M) H' := fun {H'} q a o e n => ⟨q a o e (fun z => n (.inr (.inl z))) (fun z => n (.inr (.inr z))), fun z => (mu_add.mp z).elim n (ne_of_none e hD)⟩
    let Wv : Nat → Hp → Prop := fun i H' => ∃ sw acc dacc rest, Kd H' ∧ Rel K (Z.add D) M σ H' (sw.set j .no) ∧ NoOwn sw[j]? ∧
      H' D = some (.lst acc) ∧ DtAll K (Mu (Z.add D) M) H' acc dacc ∧ dacc.length ≤ i ∧ lcRun j t fa (is.drop i) sw = some (rest, s2) ∧ os = dacc ++ rest
    refine ⟨fun i m H' => m = is.length - i ∧ i ≤ is.length ∧ Wv i H', ⟨is.length, by simp, Nat.zero_le _, s1, [], [], os, fun a o e _ _ => grow_new hD a o e, ?_, ?_, upd_same, .nil, Nat.le_refl _, h2, rfl⟩, ?_⟩
    · rw [set_no hc1]
      exact r1.addNew hD _
    · exact ⟨fun ds hh => (by rw [hc1] at hh; cases hh), fun ds hh => (by rw [hc1] at hh; cases hh)⟩
    rintro i m H' ⟨rfl, hi, sw, acc, dacc, rest, k2, r2, hsw, e1, e2, e3, e4, e5⟩
    by_cases hlt : i < is.length
    · have ed : is.drop i = is[i] :: is.drop (i + 1) := List.drop_eq_getElem_cons hlt
      rw [ed] at e4
      unfold lcRun at e4
      simp only [Option.bind_eq_some_iff] at e4
      obtain ⟨⟨b, s3⟩, e6, e7⟩ := e4
      dsimp only at e7
      split at e7
      case isFalse => cases e7
      rename_i n3
      refine .inr ⟨((y _ _ (kdy k2) i).1 hlt).1, Wv (i + 1), fun H3 q => ⟨is.length - (i + 1), by omega, rfl, hlt, q⟩, fun x H'' hy => ?_⟩
      obtain ⟨rfl, d, e8, e9⟩ := ((y _ _ (kdy k2) i).1 hlt).2 x H'' hy
      rw [List.getElem?_eq_getElem hlt] at e8
      cases e8
      refine ⟨by rw [wipe1, wipe1, List.set_set, List.set_set], ?_⟩
      have r3 : Rel K (Z.add D) M ((wipe σ [j]).set j (some x)) H'' (sw.set j (.dat is[i])) := by
        have q := (r2.sl.putDat e9 j ⟨(by
          intro ds hh
          by_cases hl : j < sw.length
          · rw [List.getElem?_set_self hl] at hh; cases hh
          · rw [List.getElem?_eq_none (by simpa using hl)] at hh; cases hh), (by
          intro ds hh
          by_cases hl : j < sw.length
          · rw [List.getElem?_set_self hl] at hh; cases hh
          · rw [List.getElem?_eq_none (by simpa using hl)] at hh; cases hh)⟩)
        rw [List.set_set] at q
        refine r2.withSl ?_
        rw [wipe1, List.set_set]
        exact q
      have back : ∀ {H4 : Hp} {s4 : Sl}, Rel K (Z.add D) M ((wipe σ [j]).set j (some x)) H4 s4 → NoOwn s4[j]? → Rel K (Z.add D) M σ H4 (s4.set j .no) := fun {H4 s4} r4 hs4 => by
        have q := r4.sl.forget (x := σ[j]?.join) j hs4
        refine r4.withSl ?_
        rw [wipe1, List.set_set, List.set_set] at q
        have e : σ.set j (σ[j]?.join) = σ := by
          apply List.ext_getElem?
          intro i'
          by_cases e : i' = j
          · subst e
            by_cases hl : i' < σ.length
            · rw [List.getElem?_set_self hl, List.getElem?_eq_getElem hl]; rfl
            · rw [List.getElem?_eq_none (by simpa using hl), List.getElem?_eq_none (by simpa using hl)]
          · rw [List.getElem?_set_ne (Ne.symm e)]
        rw [e] at q
        exact q
      refine hT D _ _ _ ⟨M, _, b, s3, r3, e6, fun H4 k4 r4 => ?_⟩
      have eD4 : H4 D = some (.lst acc) := (k4 D _ e1 npp nDM).1
      have kd4 : Kd H4 := fun a o e n1 n2 => (k4 a o (k2 a o e n1 n2) n1 n2).1
      cases b with
      | true =>
        rw [if_pos rfl] at e7
        simp only [Option.bind_eq_some_iff] at e7
        obtain ⟨⟨d2, s4⟩, e10, e11⟩ := e7
        dsimp only at e11
        split at e11
        case isFalse => cases e11
        rename_i n4
        simp only [Option.map_eq_some_iff] at e11
        obtain ⟨⟨w, s5⟩, e11, e12⟩ := e11
        cases e12
        refine iteT ?_
        refine hE D _ _ _ ⟨M, s3, d2, s4, r4, e10, fun v H5 k5 r5 t5 => ?_⟩
        have eD5 : H5 D = some (.lst acc) := (k5 D _ eD4 npp nDM).1
        have nm : Mu (Z.add D) M D := .inl (.inr rfl)
        have kw : Kp (Mu (Z.add D) M) H5 (Mu (Z.add D) M) (upd H5 D (.lst (acc ++ [v]))) := fun a u e n => ⟨by
          have na : a ≠ D := fun z => n (by rw [z]; exact nm)
          rw [upd_ne na]; exact e, n⟩
        have lacc := e2.len
        refine ⟨acc, eD5, by omega, s4, acc ++ [v], dacc ++ [d2], w, fun a o e n1 n2 => ?_, (back r5 (notOwn_ne n4)).wrAdd npp _ n0, notOwn_ne n4, upd_same, ((e2.mono (k4.kp.trans k5.kp)).append (.cons t5 .nil)).mono kw, by rw [List.length_append]; exact Nat.succ_le_succ e3, e11, by rw [e5, List.append_assoc]; rfl⟩
        have na : a ≠ D := ne_of_none e hD
        rw [upd_ne na]
        exact (k5 a o (kd4 a o e n1 n2) n1 n2).1
      | false =>
        rw [if_neg (by simp)] at e7
        refine iteF ?_
        exact ⟨s3, acc, dacc, rest, kd4, back r4 (notOwn_ne n3), notOwn_ne n3, eD4, e2.mono k4.kp, by omega, e7, e5⟩
    · have e : i = is.length := by omega
      subst e
      rw [List.drop_length] at e4
      cases e4
      rw [List.append_nil] at e5
      subst e5
      refine .inl ⟨(y _ _ (kdy k2) _).2 (Nat.le_refl _), ?_⟩
      exact k D acc H' hD0 e1 (fun a o e n1 n2 => ⟨k2 a o (k1 a o e n1 n2).1 n1 n2, n2⟩) r2 e2
  · cases h2
theorem flc {elt iter : Expr} {x : Str} {px : Pos} {ifs : List Expr} {scope : Scope} {j : Nat} (hc : X.calm = true) (hN : X.N.Nodup) (hi : PI X (.Name x px) iter (lfI X.K Z ff)) (ok : BlkOk X.N X.env.scope scope [(x, j)])
    (hg : ∀ (s : Shared) (H : Hp) (C : Addr) (cl : List (Str × Addr)) (fp : List Addr), PG (X.blk s H scope (compEnvC scope cl C X.env) fp) (.Name x px) (gName j))
    (ht : ∀ (s : Shared) (H : Hp) (C : Addr) (cl : List (Str × Addr)) (fp : List Addr) (Z : Par), PTs (X.blk s H scope (compEnvC scope cl C X.env) fp) ifs (lfT X.K Z t))
    (he : ∀ (s : Shared) (H : Hp) (C : Addr) (cl : List (Str × Addr)) (fp : List Addr) (Z : Par), PE (X.blk s H scope (compEnvC scope cl C X.env) fp) elt (lft X.K Z fa)) (hs : ∀ x, foldedSetIterable iter X.env x = pure x := by intro _; rfl) :
    PE X (.ListComp elt [⟨.Name x px, iter, ifs, 0⟩] scope pos) (lfF X.K Z (fLc ff j t fa)) :=
  PEimp (pe_lc hc hN hi ok hg (tt := fun σ H Q => ∃ Z, lfT X.K Z t σ H Q) (te := fun σ H Q => ∃ Z, lft X.K Z fa σ H Q)
    (fun s H0 C cl fp => ⟨fun pins s' σ H Q I ⟨Z, q⟩ => (ht s H0 C cl fp Z).run pins s' σ H Q I q⟩) (fun s H0 C cl fp => ⟨fun pins s' σ H Q I ⟨Z, q⟩ => (he s H0 C cl fp Z).run pins s' σ H Q I q⟩) hs) fun σ H Q h => lift_lc (fun _ _ _ _ q => ⟨_, q⟩) (fun _ _ _ _ q => ⟨_, q⟩) h
theorem tynil : PTs X [] (lfT X.K Z tYesD) := ⟨fun pins s σ H Q I h => pts_nil.run pins s σ H Q I (by
  obtain ⟨M, s, c, s', rl, hf, k⟩ := h
  cases hf
  exact k H (Kq.refl _ _ _) rl)⟩
end
end Dl

namespace Dl
open PySem PySem.Spec PyProof.Rows L2

/-! ### promises: a function of data; one that changes the list handed in first; one that makes a list which nobody else has -/
def spP (K : PySem.W.Frag) (m : List PyData → Option PyData) : Sp := fun vs H Q _ => ∃ mu ds d, (∀ a, mu a → ∃ o, H a = some o) ∧ DtAll K mu H vs ds ∧ m ds = some d ∧
  ∀ v H', (∀ a o, H a = some o → H' a = some o) → Dt K mu H' v d → Q v H'
def spM (K : PySem.W.Frag) (m : List PyData → List PyData → Option (PyData × List PyData)) : Sp := fun vs H Q _ => ∃ mu p xs pd rest ds d pd', vs = .ref p :: rest ∧ mu p ∧ (∀ a, mu a → ∃ o, H a = some o) ∧ H p = some (.lst xs) ∧ DtAll K mu H xs pd ∧ DtAll K mu H rest ds ∧
  m pd ds = some (d, pd') ∧ ∀ v H' xs', (∀ a o, H a = some o → a ≠ p → H' a = some o) → H' p = some (.lst xs') → DtAll K mu H' xs' pd' → Dt K mu H' v d → Q v H'
def spF (K : PySem.W.Frag) (m : List PyData → Option (List PyData)) : Sp := fun vs H Q _ => ∃ mu ds es, (∀ a, mu a → ∃ o, H a = some o) ∧ DtAll K mu H vs ds ∧ m ds = some es ∧
  ∀ p xs H', H p = none → (∀ a o, H a = some o → H' a = some o) → H' p = some (.lst xs) → DtAll K (fun a => mu a ∨ a = p) H' xs es → Q (.ref p) H'

def dCall (m : List PyData → Option PyData) (g : DA) : DE := fun s => (g s).bind fun p => (m p.1).map fun d => (d, p.2)
def dCallM (m : List PyData → List PyData → Option (PyData × List PyData)) (i : Nat) (g : DA) : DE := fun s => (contents s i).bind fun _ => (g s).bind fun p => (contents p.2 i).bind fun pd => (m pd p.1).map fun q => (q.1, setC p.2 i q.2)
def fCall (m : List PyData → Option (List PyData)) (g : DA) : DF := fun s => (g s).bind fun p => (m p.1).map fun d => (d, p.2)
section
variable {X : Cx} {Z : Par} {a b e : Expr} {es : List Expr} {pos : Pos} {fa fb fc : DE} {ff : DF} {ga : DA} {k : Nat} {f : Addr} {fd : FuncData} {ps : List Str} {x : Str} {p : Pos} {E : XK}
theorem lift_call {K : PySem.W.Frag} {m : List PyData → Option PyData} {σ : L2.St} {H : Hp} {Q : VK} (h : lft K Z (dCall m ga) σ H Q) : tCall (spP K m) [] E (lfA K Z ga) σ H Q := by
  obtain ⟨M, s, d, s', rl, hf, k⟩ := h
  unfold dCall at hf
  simp only [Option.bind_eq_some_iff, Option.map_eq_some_iff] at hf
  obtain ⟨⟨ds, s1⟩, h1, d1, h2, h3⟩ := hf
  cases h3
  refine ⟨M, s, ds, _, rl, h1, fun vs H1 k1 r1 t1 => ?_⟩
  show spP K m (vs ++ []) H1 Q E
  rw [List.append_nil]
  exact ⟨Mu Z M, ds, _, r1.muT, t1, h2, fun v H2 g2 t2 => k v H2 (k1.trans (kq_grow g2)) (r1.grow g2) t2⟩
theorem dcall {m : List PyData → Option PyData} (F : FnOk X.prog X.w X.K X.mg X.base CX0 k f fd ps (spP X.K m)) (hr : Room k X.A) (hg : Gl X x) (hm : X.mg x = some (.ref f)) (hk : PySem.W.keepIn X.K (.ref f) = true) (hb : Binds X.K fd ps []) (ha : PA X (e :: es) (lfA X.K Z ga)) (hx : Passes CX0 X E0 := by exact pass0)
    (hdb : (x == ("__debug__" : Str)) = false := by decide) (he : starEach (e :: es) X.env = (false, eval e X.env) :: starEach es X.env := by rfl) (hpl : (backTo pos (starEach es X.env)).any (·.1) = false := by rfl) :
    PE X (.Call (.Name x p) (e :: es) [] pos) (lft X.K Z (dCall m ga)) := PEimp (pe_call F hr hg hm hk hb .nil hx ha hdb he hpl) fun _ _ _ h => lift_call h
theorem dcall0 {m : List PyData → Option PyData} (F : FnOk X.prog X.w X.K X.mg X.base CX0 k f fd ps (spP X.K m)) (hr : Room k X.A) (hg : Gl X x) (hm : X.mg x = some (.ref f)) (hk : PySem.W.keepIn X.K (.ref f) = true) (hb : Binds X.K fd ps []) (hx : Passes CX0 X E0 := by exact pass0)
    (hdb : (x == ("__debug__" : Str)) = false := by decide) : PE X (.Call (.Name x p) [] [] pos) (lft X.K Z (dCall m aNil)) := PEimp (pe_call0 F hr hg hm hk hb .nil hx hdb) fun σ H Q h => by
  have q := lift_call (E := E0) h
  obtain ⟨M, s, d, s', rl, hf, k⟩ := q
  cases hf
  exact k [] H (Kq.refl _ _ _) rl .nil
theorem lift_callM {K : PySem.W.Frag} {m : List PyData → List PyData → Option (PyData × List PyData)} {i : Nat} {σ : L2.St} {H : Hp} {Q : VK} (h : lft K Z (dCallM m i ga) σ H Q) : tCall (spM K m) [] E (tCons (tVar i) (lfA K Z ga)) σ H Q := by
  obtain ⟨M, s, d, s', rl, hf, k⟩ := h
  unfold dCallM at hf
  simp only [Option.bind_eq_some_iff, Option.map_eq_some_iff] at hf
  obtain ⟨pd0, h0, ⟨ds, s1⟩, h1, pd, h2, ⟨d1, pd1⟩, h3, h4⟩ := hf
  cases h4
  obtain ⟨a0, xs0, g1, _⟩ := rl.at h0
  refine ⟨.ref a0, g1, M, s, ds, s1, rl, h1, fun vs H1 k1 r1 t1 => ?_⟩
  show spM K m ((V.ref a0 :: vs) ++ []) H1 Q E
  rw [List.append_nil]
  obtain ⟨a1, xs, e1, e2, e3, e4, e5⟩ := r1.at h2
  rw [g1] at e1
  cases e1
  refine ⟨Mu Z M, a0, xs, pd, vs, ds, _, pd1, rfl, e4, r1.muT, e2, e3, t1, h3, fun v H2 xs2 g2 g3 t2 t3 => ?_⟩
  obtain ⟨r2, k2⟩ := e5 H2 xs2 pd1 g3 g2 t2
  exact k v H2 (k1.trans k2) r2 t3
/-- f(x, ..), x a list that f may change -/
theorem dcallM {m : List PyData → List PyData → Option (PyData × List PyData)} (i : Nat) (F : FnOk X.prog X.w X.K X.mg X.base CX0 k f fd ps (spM X.K m)) (hr : Room k X.A) (hg : Gl X x) (hm : X.mg x = some (.ref f)) (hk : PySem.W.keepIn X.K (.ref f) = true) (hb : Binds X.K fd ps []) (h1 : PE X e (tVar i)) (ha : PA X es (lfA X.K Z ga)) (hx : Passes CX0 X E0 := by exact pass0)
    (hdb : (x == ("__debug__" : Str)) = false := by decide) (he : starEach (e :: es) X.env = (false, eval e X.env) :: starEach es X.env := by rfl) (hpl : (backTo pos (starEach es X.env)).any (·.1) = false := by rfl) :
    PE X (.Call (.Name x p) (e :: es) [] pos) (lft X.K Z (dCallM m i ga)) := PEimp (pe_call F hr hg hm hk hb .nil hx (pa_cons h1 ha he) hdb he hpl) fun _ _ _ h => lift_callM h
/-- .. of a function that makes a list of its own -/
theorem fcall {m : List PyData → Option (List PyData)} (F : FnOk X.prog X.w X.K X.mg X.base CX0 k f fd ps (spF X.K m)) (hr : Room k X.A) (hg : Gl X x) (hm : X.mg x = some (.ref f)) (hk : PySem.W.keepIn X.K (.ref f) = true) (hb : Binds X.K fd ps []) (ha : PA X (e :: es) (lfA X.K Z ga)) (hx : Passes CX0 X E0 := by exact pass0)
    (hdb : (x == ("__debug__" : Str)) = false := by decide) (he : starEach (e :: es) X.env = (false, eval e X.env) :: starEach es X.env := by rfl) (hpl : (backTo pos (starEach es X.env)).any (·.1) = false := by rfl) :
    PE X (.Call (.Name x p) (e :: es) [] pos) (lfF X.K Z (fCall m ga)) := PEimp (pe_call F hr hg hm hk hb .nil hx ha hdb he hpl) fun σ H Q h => by
  obtain ⟨M, s, d, s', rl, hf, k⟩ := h
  unfold fCall at hf
  simp only [Option.bind_eq_some_iff, Option.map_eq_some_iff] at hf
  obtain ⟨⟨ds, s1⟩, h1, d1, h2, h3⟩ := hf
  cases h3
  refine ⟨M, s, ds, _, rl, h1, fun vs H1 k1 r1 t1 => ?_⟩
  show spF X.K m (vs ++ []) H1 Q E0
  rw [List.append_nil]
  refine ⟨Mu Z M, ds, _, r1.muT, t1, h2, fun q xs H2 hq g2 g3 t2 => ?_⟩
  have hq0 : H q = none := by
    cases w : H q with
    | none => rfl
    | some o =>
      by_cases m : Mu Z M q
      · obtain ⟨u, e⟩ := r1.muT q m
        rw [hq] at e; cases e
      · have := (k1.kp q o w m).1
        rw [hq] at this; cases this
  have kp2 : Kp (fun a => Mu Z M a ∨ a = q) H2 (Mu (Z.add q) M) H2 := fun a o e n => ⟨e, fun z => n (mu_add.mp z)⟩
  -- the state behind: all stood ahead of q
  have r2 : Rel X.K (Z.add q) M σ H2 s1 := by
    have kq : Kp (Mu Z M) H1 (Mu (Z.add q) M) H2 := fun a o e n => ⟨g2 a o e, fun z => (mu_add.mp z).elim n (ne_of_none e hq)⟩
    refine ⟨fun a o e n => g2 a o (r1.base a o e n), fun a ha => ?_, fun a ha => ?_, fun a ha => let ⟨o, e⟩ := r1.pt a ha; ⟨o, g2 a o e⟩, ?_⟩
    · obtain ⟨f1, f2, f3, o, f4⟩ := r1.fr a ha
      exact ⟨f1, f2, fun z => z.elim f3 (ne_of_none f4 hq), o, g2 a o f4⟩
    · rcases ha with ha | ha
      · obtain ⟨o, e⟩ := r1.mz a ha
        exact ⟨o, g2 a o e⟩
      · rw [ha]; exact ⟨_, g3⟩
    · exact r1.sl.kp kq (M := M) (fun a xs _ e => g2 _ _ e) (fun a xs _ e => g2 _ _ e) (fun _ h => h)
  exact k q xs H2 hq0 g3 (k1.trans (kq_grow g2)) r2 (t2.mono kp2)
end

/-! ### defs -/
def startS (N : List Str) (ds : List PyData) : Sl := ds.map SV.dat ++ List.replicate (N.length - ds.length) .no
def startM (N : List Str) (pd ds : List PyData) : Sl := SV.pot 0 pd :: (ds.map SV.dat ++ List.replicate (N.length - 1 - ds.length) .no)
def outP : Option Fl → Option PyData
  | some (.rt d _) => some d
  | some (.nx _) => some .none
  | _ => none
def potOf : Option SV → Option (List PyData)
  | some (.pot 0 pd) => some pd
  | _ => none
theorem potOf_eq {x : Option SV} {pd : List PyData} (h : potOf x = some pd) : x = some (.pot 0 pd) := by
  unfold potOf at h
  split at h
  · cases h; rfl
  · cases h
def outM : Option Fl → Option (PyData × List PyData)
  | some (.rt d s) => (potOf s[0]?).map fun pd => (d, pd)
  | some (.nx s) => (potOf s[0]?).map fun pd => (.none, pd)
  | _ => none
/-- the meaning of a def by its body's -/
def fnP (N : List Str) (n : Nat) (b : DS) : List PyData → Option PyData := fun ds => if ds.length = n then outP (b (startS N ds)) else none
def fnM (N : List Str) (n : Nat) (b : DS) : List PyData → List PyData → Option (PyData × List PyData) := fun pd ds => if ds.length + 1 = n then outM (b (startM N pd ds)) else none
section
variable {P : Program} {w : World} {K : PySem.W.Frag} {mg : Str → Option Value} {base : Heap}
theorem slAll_nos {mu : Addr → Prop} {q : List Addr} {H : Hp} : ∀ n : Nat, SlAll K mu q H (List.replicate n none) (List.replicate n .no) []
  | 0 => .nil
  | n + 1 => .no (slAll_nos n)
theorem slAll_start {mu : Addr → Prop} {q : List Addr} {H : Hp} (n : Nat) : ∀ {vs : List V} {ds : List PyData}, DtAll K mu H vs ds → SlAll K mu q H (vs.map some ++ List.replicate n none) (ds.map SV.dat ++ List.replicate n .no) []
  | _, _, .nil => slAll_nos n
  | _, _, .cons h t => .dat h (slAll_start n t)
/-- a def of data -/
theorem okP {x qual : Str} {st : Stmt} {f : Addr} {fd : FuncData} {N ps : List Str} {k : Nat} {b : DS} (F : Fun K x qual st f fd) (S : FnScope N ps (defScope st))
    (hb : ∀ (cdv : Value) (A : Around) (outer : List Env) (s : Shared) (H : Hp) (E : XK) (Z : Par), Room k (A.deeper (envOfC qual (defScope st) s.heap.objs.size f cdv)) → PSs (cxOf CX0 P w K mg base N qual (defScope st) f cdv A outer s H E).nox (defBody st) (lfS K Z b)) :
    FnOk P w K mg base CX0 (k + 1) f fd ps (spP K (fnP N ps.length b)) := by
  refine F.ok S (fun vs H Q E h => ?_) (fun cdv A outer s H vs Q E hr h => ?_)
  · obtain ⟨mu, ds, d, h1, h2, h3, h4⟩ := h
    unfold fnP at h3
    split at h3
    · rename_i hl
      rw [h2.len]; exact hl
    · cases h3
  · obtain ⟨mu, ds, d, h1, h2, h3, h4⟩ := h
    unfold fnP at h3
    split at h3
    case isFalse => cases h3
    rename_i hl
    let Z : Par := ⟨H, [], mu, .nil⟩
    refine ⟨_, hb cdv A outer s H E Z hr, [], startS N ds, ?_⟩
    have muE : ∀ a, Mu Z [] a → mu a := fun a q => by
      rcases q with q | q | q
      · exact q
      · cases q
      · cases q
    have r : Rel K Z [] (start N vs) H (startS N ds) := by
      refine ⟨fun a o e _ => e, fun a ha => (by cases ha), h1, fun a ha => (by cases ha), ?_⟩
      unfold startS L2.start
      rw [h2.len]
      exact slAll_start _ (h2.mono fun a o e n => ⟨e, fun z => n (muE a z)⟩)
    unfold outP at h3
    split at h3
    · rename_i d1 s1 hq
      cases h3
      refine ⟨_, r, hq, fun M σ H1 v k1 r1 t1 => h4 v H1 (fun a o e => r1.base a o e (fun z => by cases z)) (t1.mono fun a o e n => ⟨e, fun z => n (.inl z)⟩)⟩
    · rename_i s1 hq
      cases h3
      refine ⟨_, r, hq, fun M σ H1 k1 r1 => h4 _ H1 (fun a o e => r1.base a o e (fun z => by cases z)) .non⟩
    · cases h3
/-- a def that changes the list handed in first -/
theorem okM {x qual : Str} {st : Stmt} {f : Addr} {fd : FuncData} {N ps : List Str} {k : Nat} {b : DS} (F : Fun K x qual st f fd) (S : FnScope N ps (defScope st))
    (hb : ∀ (cdv : Value) (A : Around) (outer : List Env) (s : Shared) (H : Hp) (E : XK) (Z : Par), Room k (A.deeper (envOfC qual (defScope st) s.heap.objs.size f cdv)) → PSs (cxOf CX0 P w K mg base N qual (defScope st) f cdv A outer s H E).nox (defBody st) (lfS K Z b)) :
    FnOk P w K mg base CX0 (k + 1) f fd ps (spM K (fnM N ps.length b)) := by
  refine F.ok S (fun vs H Q E h => ?_) (fun cdv A outer s H vs Q E hr h => ?_)
  · obtain ⟨mu, p, xs, pd, rest, ds, d, pd', rfl, h0, h1, h2, h3, h4, h5, h6⟩ := h
    unfold fnM at h5
    split at h5
    · rename_i hl
      rw [List.length_cons, h4.len]; exact hl
    · cases h5
  · obtain ⟨mu, p, xs, pd, rest, ds, d, pd', rfl, h0, h1, h2, h3, h4, h5, h6⟩ := h
    unfold fnM at h5
    split at h5
    case isFalse => cases h5
    rename_i hl
    let Z : Par := ⟨H, [p], mu, by simp⟩
    refine ⟨_, hb cdv A outer s H E Z hr, [], startM N pd ds, ?_⟩
    have muE : ∀ a, Mu Z [] a → mu a := fun a q => by
      rcases q with q | q | q
      · exact q
      · rw [List.mem_singleton.mp q]; exact h0
      · cases q
    have kk : Kp mu H (Mu Z []) H := fun a o e n => ⟨e, fun z => n (muE a z)⟩
    have r : Rel K Z [] (start N (.ref p :: rest)) H (startM N pd ds) := by
      refine ⟨fun a o e _ => e, fun a ha => (by cases ha), h1, fun a ha => ⟨_, List.mem_singleton.mp ha ▸ h2⟩, ?_⟩
      unfold startM L2.start
      have e : N.length - (V.ref p :: rest).length = N.length - 1 - ds.length := by rw [List.length_cons, h4.len]; omega
      rw [e]
      exact .pot rfl h2 (h3.mono kk) (slAll_start _ (h4.mono kk))
    have fin : ∀ {M : List Addr} {σ : L2.St} {H1 : Hp} {s1 : Sl} {pd1 : List PyData}, Rel K Z M σ H1 s1 → s1[0]? = some (.pot 0 pd1) → ∃ xs1, H1 p = some (.lst xs1) ∧ DtAll K mu H1 xs1 pd1 := fun {M σ H1 s1 pd1} r1 e => by
      obtain ⟨a, xs1, _, e2, e3, e4⟩ := r1.sl.getPot e
      cases e2
      exact ⟨xs1, e3, e4.mono fun a o e n => ⟨e, fun z => n (.inl z)⟩⟩
    have bs : ∀ {M : List Addr} {σ : L2.St} {H1 : Hp} {s1 : Sl}, Rel K Z M σ H1 s1 → ∀ a o, H a = some o → a ≠ p → H1 a = some o := fun r1 a o e n => r1.base a o e (fun z => n (List.mem_singleton.mp z))
    unfold outM at h5
    split at h5
    · rename_i d1 s1 hq
      simp only [Option.map_eq_some_iff] at h5
      obtain ⟨pd1, hp, h5⟩ := h5
      cases h5
      refine ⟨_, r, hq, fun M σ H1 v k1 r1 t1 => ?_⟩
      obtain ⟨xs1, e1, e2⟩ := fin r1 (potOf_eq hp)
      exact h6 v H1 xs1 (bs r1) e1 e2 (t1.mono fun a o e n => ⟨e, fun z => n (.inl z)⟩)
    · rename_i s1 hq
      simp only [Option.map_eq_some_iff] at h5
      obtain ⟨pd1, hp, h5⟩ := h5
      cases h5
      refine ⟨_, r, hq, fun M σ H1 k1 r1 => ?_⟩
      obtain ⟨xs1, e1, e2⟩ := fin r1 (potOf_eq hp)
      exact h6 _ H1 xs1 (bs r1) e1 e2 .non
    · cases h5
end
end Dl

namespace PySem.SeqAt
open AutoSeq1 (wpAny_loadPart')
open MeetsSeq MeetsSeq2 MeetsSeq3 SeqRoads2
theorem dict_declines_str (l : Addr) (o : Obj) (b : Str) (u : Tok) :
    Meets (Builtin.«dict.__eq__» ⟨[.ref l, .str b u], []⟩) (fun _ R s => (s.heap.get? l = some o ∧ o.cls = .type "dict") ∧ R (.ok (.ret .notImplemented)) s) :=
  .of_wp fun prog w A R s h => by
    obtain ⟨hp, g, d, tk, os⟩ := s
    obtain ⟨⟨hl, hc⟩, h⟩ := h
    obtain ⟨cls, dd, dt, sl⟩ := o
    simp only at hc
    subst hc
    have f1 := F.sub_str_dict
    wp_walk using wpAny_loadPart' hl, wpAny_load hl
    exact ⟨_, rfl, h⟩
theorem str_declines_dict (b : Str) (u : Tok) (l : Addr) (o : Obj) :
    Meets (Builtin.«str.__eq__» ⟨[.str b u, .ref l], []⟩) (fun _ R s => (s.heap.get? l = some o ∧ ∃ es ep, o.data = .dict es ep) ∧ R (.ok (.ret .notImplemented)) s) :=
  .of_wp fun prog w A R s h => by
    obtain ⟨hp, g, d, tk, os⟩ := s
    obtain ⟨⟨hl, es, ep, hd⟩, h⟩ := h
    obtain ⟨cls, dd, dt, sl⟩ := o
    simp only at hd
    subst hd
    wp_walk using wpAny_loadPart' hl, wpAny_load hl
    exact ⟨_, rfl, h⟩
section
variable {A : Around} {s : Shared}
def IsD (h : Heap) (l : Addr) : Prop := ∃ o, h.get? l = some o ∧ o.cls = .type "dict" ∧ ∃ es ep, o.data = .dict es ep
theorem RcAt.dict_str {l : Addr} (b : Str) (u : Tok) (hl : IsD s.heap l) (hu : A.units < cLine) : RcAt A s (.ref l) (.str b u) false := fun prog w E Q h => by
  obtain ⟨o, ho, hc, hd⟩ := hl
  exact rc_eq_decline_or (k := false) ⟨_, ho, hc⟩ (typeIs_str s b u) (by decide) F.sub_str_dict F.slot_dict_eq F.slot_str_eq_refl
    (fun _ hq => call_meets F.slot_dict_eq ⟨_, ho, hc⟩ F.entry_dict_eq (F.args_dict_eq_2 _ _) (dict_declines_str l o b u) ⟨⟨ho, hc⟩, hq⟩)
    (fun _ hq => call_meets F.slot_str_eq_refl (typeIs_str s b u) F.entry_str_eq (F.args_str_eq_2 _ _) (str_declines_dict b u l o) ⟨⟨ho, hd⟩, hq⟩)
    (fun _ hq => wpAny_of_eq (rfl : isSame (.ref l) (.str b u) = pure false) hq) (.inr hu) h
theorem EqAt.dict_str {l : Addr} (b : Str) (u : Tok) (hl : IsD s.heap l) (hu : A.units < cLine) : EqAt A s (.ref l) (.str b u) false := fun prog w E Q h => by
  unfold eqBool
  refine wpAny_holding ?_
  refine wpAny_ite_split (fun hab => absurd (eq_of_beq hab) nofun) (fun _ => ?_)
  exact wpAny_bind (RcAt.dict_str b u hl hu prog w E _ (wpAny_truthy_bool h))
theorem RcAt.str_dict {l : Addr} (b : Str) (u : Tok) (hl : IsD s.heap l) (hu : A.units < cLine) : RcAt A s (.str b u) (.ref l) false := fun prog w E Q h => by
  obtain ⟨o, ho, hc, hd⟩ := hl
  exact rc_eq_decline_or (k := false) (typeIs_str s b u) ⟨_, ho, hc⟩ (by decide) F.sub_dict_str F.slot_str_eq F.slot_dict_eq_refl
    (fun _ hq => call_meets F.slot_str_eq (typeIs_str s b u) F.entry_str_eq (F.args_str_eq_2 _ _) (str_declines_dict b u l o) ⟨⟨ho, hd⟩, hq⟩)
    (fun _ hq => call_meets F.slot_dict_eq_refl ⟨_, ho, hc⟩ F.entry_dict_eq (F.args_dict_eq_2 _ _) (dict_declines_str l o b u) ⟨⟨ho, hc⟩, hq⟩)
    (fun _ hq => wpAny_of_eq (rfl : isSame (.str b u) (.ref l) = pure false) hq) (.inr hu) h
theorem EqAt.str_dict {l : Addr} (b : Str) (u : Tok) (hl : IsD s.heap l) (hu : A.units < cLine) : EqAt A s (.str b u) (.ref l) false := fun prog w E Q h => by
  unfold eqBool
  refine wpAny_holding ?_
  refine wpAny_ite_split (fun hab => absurd (eq_of_beq hab) nofun) (fun _ => ?_)
  exact wpAny_bind (RcAt.str_dict b u hl hu prog w E _ (wpAny_truthy_bool h))
end
end PySem.SeqAt

namespace Dl
open PySem PySem.Spec PyProof.Rows L2

/-! ### operators on trees -/
def gAdd : PyData → PyData → Option PyData
  | .int a, .int b => some (.int (a + b))
  | .str a, .str b => if a.length + b.length ≤ sizeLine then some (.str (a ++ b)) else none
  | .tuple a, .tuple b => if a.length + b.length ≤ sizeLine then some (.tuple (a ++ b)) else none
  | .list a, .list b => if a.length + b.length ≤ sizeLine then some (.list (a ++ b)) else none
  | _, _ => none
def gInt (g : Int → Int → Option Int) : PyData → PyData → Option PyData
  | .int a, .int b => (g a b).map .int
  | _, _ => none
def gSub : PyData → PyData → Option PyData := gInt fun a b => some (a - b)
def gMul : PyData → PyData → Option PyData := gInt fun a b => if (a.natAbs.log2 + b.natAbs.log2 < 1000000) then some (a * b) else none
def gDiv : PyData → PyData → Option PyData := gInt fun a b => if (0 < b ∧ b.natAbs.log2 < 9000) then some (a / b) else none
def gMod : PyData → PyData → Option PyData := gInt fun a b => if 0 < b then some (a % b) else none
def gPow : PyData → PyData → Option PyData := gInt fun a b => if 0 ≤ b ∧ ((a.natAbs.log2 + 1 : Nat) : Int) * b ≤ 2 ^ 27 then some (a ^ b.toNat) else none
def gCmpI (p : Int → Int → Bool) : PyData → PyData → Option PyData
  | .int a, .int b => some (.bool (p a b))
  | _, _ => none
def gLe : PyData → PyData → Option PyData
  | .int a, .int b => some (.bool (decide (a ≤ b)))
  | .str a, .str b => some (.bool (!decide (b.cps.toList < a.cps.toList)))
  | _, _ => none
def gLt : PyData → PyData → Option PyData
  | .int a, .int b => some (.bool (decide (a < b)))
  | .str a, .str b => some (.bool (decide (a.cps.toList < b.cps.toList)))
  | _, _ => none
def gGe : PyData → PyData → Option PyData := gCmpI fun a b => decide (b ≤ a)
def gGt : PyData → PyData → Option PyData := gCmpI fun a b => decide (b < a)

section
variable {X : Cx} {K : PySem.W.Frag}
theorem gInt_some {g : Int → Int → Option Int} {d1 d2 d : PyData} (h : gInt g d1 d2 = some d) : ∃ a b c, d1 = .int a ∧ d2 = .int b ∧ g a b = some c ∧ d = .int c := by
  unfold gInt at h
  split at h
  · simp only [Option.map_eq_some_iff] at h
    obtain ⟨c, h1, h2⟩ := h
    exact ⟨_, _, c, rfl, rfl, h1, h2.symm⟩
  · cases h
theorem okI {C : Int → Int → Prop} {g : Int → Int → Int} {g' : Int → Int → Option Int} (h : ∀ a b c, g' a b = some c → C a b ∧ c = g a b) : OpOk K (rI C fun i j => .int (g i j)) (gInt g') := fun mu H x y d1 d2 d Q hm t1 t2 e k => by
  obtain ⟨a, b, c, rfl, rfl, e1, rfl⟩ := gInt_some e
  obtain ⟨h1, rfl⟩ := h a b c e1
  exact ⟨a, b, t1.inti, t2.inti, h1, k _ H (fun _ _ z => z) (.int _)⟩
theorem okI0 {g : Int → Int → Int} {g' : Int → Int → Option Int} (h : ∀ a b c, g' a b = some c → c = g a b) : OpOk K (rI0 fun i j => .int (g i j)) (gInt g') := fun mu H x y d1 d2 d Q hm t1 t2 e k => by
  obtain ⟨a, b, c, rfl, rfl, e1, rfl⟩ := gInt_some e
  have := h a b c e1
  subst this
  exact ⟨a, b, t1.inti, t2.inti, k _ H (fun _ _ z => z) (.int _)⟩
theorem okB0 {p : Int → Int → Bool} : OpOk K (rI0 fun i j => .bl (p i j)) (gCmpI p) := fun mu H x y d1 d2 d Q hm t1 t2 e k => by
  unfold gCmpI at e
  split at e
  · cases e
    exact ⟨_, _, t1.inti, t2.inti, k _ H (fun _ _ z => z) (.bl _)⟩
  · cases e
theorem ok_sub : OpOk K (rI0 fun i j => .int (i - j)) gSub := okI0 fun a b c h => by cases h; rfl
theorem ok_mul : OpOk K (rI CMulW fun i j => .int (i * j)) gMul := okI fun a b c h => by
  split at h
  · cases h; exact ⟨by assumption, rfl⟩
  · cases h
theorem ok_div : OpOk K (rI CDivW fun i j => .int (i / j)) gDiv := okI fun a b c h => by
  split at h
  · cases h; exact ⟨by assumption, rfl⟩
  · cases h
theorem ok_mod : OpOk K (rI (fun _ j => 0 < j) fun i j => .int (i % j)) gMod := okI fun a b c h => by
  split at h
  · cases h; exact ⟨by assumption, rfl⟩
  · cases h
def CPowW (i j : Int) : Prop := 0 ≤ j ∧ ((i.natAbs.log2 + 1 : Nat) : Int) * j ≤ 2 ^ 27
theorem op_powW : OpR X (binaryOp .Pow) (rI CPowW fun i j => .int (i ^ j.toNat)) := opI fun i j _ _ _ _ _ hc q => pow_int hc.1 (by
  have e : Builtin.Int.intBits i ≤ i.natAbs.log2 + 1 := by
    unfold Builtin.Int.intBits
    split <;> omega
  have h1 : (Builtin.Int.intBits i : Int) ≤ ((i.natAbs.log2 + 1 : Nat) : Int) := Int.ofNat_le.mpr e
  exact Int.le_trans (Int.mul_le_mul_of_nonneg_right h1 hc.1) hc.2) q
theorem ok_pow : OpOk K (rI CPowW fun i j => .int (i ^ j.toNat)) gPow := okI fun a b c h => by
  split at h
  · cases h; exact ⟨by assumption, rfl⟩
  · cases h
theorem ok_ge : OpOk K (rI0 fun i j => .bl (decide (j ≤ i))) gGe := okB0
theorem ok_gt : OpOk K (rI0 fun i j => .bl (decide (j < i))) gGt := okB0
def rLeA : R2 := fun x y H Q => (∃ i j, x = .int i ∧ y = .int j ∧ Q (.bl (decide (i ≤ j))) H) ∨ ∃ i j, x = .str i ∧ y = .str j ∧ Q (.bl (!decide (j.cps.toList < i.cps.toList))) H
theorem op_leA : OpR X (compareOp .LtE) rLeA := OpR.or op_le op_le_str
theorem ok_le : OpOk K rLeA gLe := fun mu H x y d1 d2 d Q hm t1 t2 e k => by
  unfold gLe at e
  split at e
  · cases e; exact .inl ⟨_, _, t1.inti, t2.inti, k _ H (fun _ _ z => z) (.bl _)⟩
  · cases e; exact .inr ⟨_, _, t1.text, t2.text, k _ H (fun _ _ z => z) (.bl _)⟩
  · cases e
def rLtA : R2 := fun x y H Q => (∃ i j, x = .int i ∧ y = .int j ∧ Q (.bl (decide (i < j))) H) ∨ ∃ i j, x = .str i ∧ y = .str j ∧ Q (.bl (decide (i.cps.toList < j.cps.toList))) H
theorem op_ltA : OpR X (compareOp .Lt) rLtA := OpR.or op_lt op_lt_str
theorem ok_lt : OpOk K rLtA gLt := fun mu H x y d1 d2 d Q hm t1 t2 e k => by
  unfold gLt at e
  split at e
  · cases e; exact .inl ⟨_, _, t1.inti, t2.inti, k _ H (fun _ _ z => z) (.bl _)⟩
  · cases e; exact .inr ⟨_, _, t1.text, t2.text, k _ H (fun _ _ z => z) (.bl _)⟩
  · cases e
/-- + -/
def rCatR : R2 := fun x y H Q => ∃ l b xs zs, x = .ref l ∧ y = .ref b ∧ Rd H l (.lst xs) ∧ Rd H b (.lst zs) ∧ xs.length + zs.length ≤ sizeLine ∧ ∀ p, H p = none → Q (.ref p) (upd H p (.lst (xs ++ zs)))
theorem op_catR : OpR X (binaryOp .Add) rCatR := fun pins s σ H x y v u Q I rx ry ⟨l, b, xs, zs, ex, ey, h1, h2, hz, q⟩ => by
  subst ex ey
  cases rx
  cases ry
  obtain ⟨z1, its, n, r, e⟩ := h1.ok I.hok
  obtain ⟨z2, its2, n2, r2, e2⟩ := h2.ok I.hok
  have l1 := r.length
  have l2 := r2.length
  refine PySem.P.add_list e e2 ?_ (by rw [List.size_toArray, List.size_toArray]; omega)
  rw [show its.toArray ++ its2.toArray = (its ++ its2).toArray by simp]
  exact ⟨.ref _, _, I.lnew (t' := s.toks) (r.append r2) (by rw [List.length_append]; omega), rfl, q _ I.fresh⟩
def rAddA (K : PySem.W.Frag) : R2 := fun x y H Q => ((∃ i j, x = .int i ∧ y = .int j ∧ Q (.int (i + j)) H) ∨ ∃ i j, x = .str i ∧ y = .str j ∧ i.length + j.length ≤ sizeLine ∧ Q (.str (i ++ j)) H) ∨ (rCatF K x y H Q ∨ rCatR x y H Q)
theorem op_addA : OpR X (binaryOp .Add) (rAddA X.K) := OpR.or (OpR.or op_add op_add_str) (OpR.or op_catF op_catR)
theorem ok_add : OpOk K (rAddA K) gAdd := fun mu H x y d1 d2 d Q hm t1 t2 e k => by
  unfold gAdd at e
  split at e
  · cases e; exact .inl (.inl ⟨_, _, t1.inti, t2.inti, k _ H (fun _ _ z => z) (.int _)⟩)
  · split at e
    · cases e; exact .inl (.inr ⟨_, _, t1.text, t2.text, by assumption, k _ H (fun _ _ z => z) (.str _)⟩)
    · cases e
  · rename_i ds es
    split at e
    case isFalse => cases e
    rename_i hz
    cases e
    obtain ⟨a, xs, ea, h1, u1⟩ := t1.tuple
    obtain ⟨b, ys, eb, h2, u2⟩ := t2.tuple
    subst ea eb
    refine .inr (.inl ⟨a, b, xs, ys, rfl, rfl, h1, h2, by rw [u1.len, u2.len]; exact hz, fun hx => ?_, fun _ hy => ?_, fun _ _ p o hp ho => ?_⟩)
    · subst hx
      cases u1
      exact k _ H (fun _ _ z => z) t2
    · subst hy
      cases u2
      rw [List.append_nil] at k
      exact k _ H (fun _ _ z => z) t1
    · exact k _ _ (grow_new hp) (dt_newT ho hm hp (u1.append u2))
  · rename_i ds es
    split at e
    case isFalse => cases e
    rename_i hz
    cases e
    obtain ⟨a, xs, ea, h1, u1⟩ := t1.listR
    obtain ⟨b, ys, eb, h2, u2⟩ := t2.listR
    subst ea eb
    exact .inr (.inr ⟨a, b, xs, ys, rfl, rfl, h1, h2, by rw [u1.len, u2.len]; exact hz, fun p hp => k _ _ (grow_new hp) (dt_newL hm hp (u1.append u2))⟩)
  · cases e

/-! ### an item, by its place -/
def gIx : PyData → PyData → Option PyData
  | .list ds, .int i => atI ds i
  | .tuple ds, .int i => atI ds i
  | .str x, .int i => if x.length ≤ sizeLine then (atI x.cps.toList i).map fun c => .str ⟨#[c]⟩ else none
  | .dict [(.none, .list ds)], .int i => atI ds i
  | _, _ => none
theorem ok_ix : OpOk K (rIx K) gIx := fun mu H x y d1 d2 d Q hm t1 t2 e k => by
  unfold gIx at e
  split at e
  · obtain ⟨a, xs, rfl, h1, u1⟩ := t1.list
    obtain ⟨v, e1, u2⟩ := atI_dt u1 e
    exact .inl ⟨a, xs, _, v, rfl, t2.inti, h1, e1, k _ H (fun _ _ z => z) u2⟩
  · obtain ⟨a, xs, rfl, h1, u1⟩ := t1.tuple
    obtain ⟨v, e1, u2⟩ := atI_dt u1 e
    exact .inr (.inl ⟨a, xs, _, v, rfl, t2.inti, h1, e1, k _ H (fun _ _ z => z) u2⟩)
  · split at e
    case isFalse => cases e
    rename_i hz
    simp only [Option.map_eq_some_iff] at e
    obtain ⟨c, e1, e2⟩ := e
    cases e2
    exact .inr (.inr ⟨_, _, c, t1.text, t2.inti, hz, e1, k _ H (fun _ _ z => z) (.str _)⟩)
  · obtain ⟨a, xs, rfl, h1, u1⟩ := t1.script
    obtain ⟨v, e1, u2⟩ := atI_dt u1 e
    exact .inl ⟨a, xs, _, v, rfl, t2.inti, h1, e1, k _ H (fun _ _ z => z) u2⟩
  · cases e

/-! ### built-ins -/
def gLen : List PyData → Option PyData
  | [.list ds] => some (.int ds.length)
  | [.tuple ds] => some (.int ds.length)
  | [.str x] => if x.length ≤ sizeLine then some (.int x.length) else none
  | [.dict [(.none, .list ds)]] => some (.int ds.length)
  | _ => none
theorem one_of {mu : Addr → Prop} {H : Hp} {xs : List V} {d : PyData} (t : DtAll K mu H xs [d]) : ∃ x, xs = [x] ∧ Dt K mu H x d := by
  cases t with
  | cons h r => cases r; exact ⟨_, rfl, h⟩
theorem two_of {mu : Addr → Prop} {H : Hp} {xs : List V} {d e : PyData} (t : DtAll K mu H xs [d, e]) : ∃ x y, xs = [x, y] ∧ Dt K mu H x d ∧ Dt K mu H y e := by
  cases t with
  | cons h r =>
    obtain ⟨y, rfl, h2⟩ := one_of r
    exact ⟨_, y, rfl, h, h2⟩
theorem ok_len : CallOk K (fun xs H Q => ∃ x n, xs = [x] ∧ LenV K x H n ∧ Q (.int n) H) gLen := fun mu H xs ds d Q hm t e k => by
  unfold gLen at e
  split at e
  · obtain ⟨x, rfl, t1⟩ := one_of t
    cases e
    obtain ⟨a, xs, rfl, h1, u1⟩ := t1.list
    exact ⟨_, _, rfl, .inl ⟨xs, h1, rfl⟩, by rw [u1.len]; exact k _ H (fun _ _ z => z) (.int _)⟩
  · obtain ⟨x, rfl, t1⟩ := one_of t
    cases e
    obtain ⟨a, xs, rfl, h1, u1⟩ := t1.tuple
    exact ⟨_, _, rfl, .inr ⟨xs, h1, rfl⟩, by rw [u1.len]; exact k _ H (fun _ _ z => z) (.int _)⟩
  · obtain ⟨x, rfl, t1⟩ := one_of t
    split at e
    case isFalse => cases e
    cases e
    exact ⟨_, _, rfl, (show LenV K x H _ by rw [t1.text]; exact ⟨by assumption, rfl⟩), k _ H (fun _ _ z => z) (.int _)⟩
  · obtain ⟨x, rfl, t1⟩ := one_of t
    cases e
    obtain ⟨a, xs, rfl, h1, u1⟩ := t1.script
    exact ⟨_, _, rfl, .inl ⟨xs, h1, rfl⟩, by rw [u1.len]; exact k _ H (fun _ _ z => z) (.int _)⟩
  · cases e
def gAbs : List PyData → Option PyData
  | [.int i] => some (.int (if i < 0 then -i else i))
  | _ => none
theorem ok_abs : CallOk K (fun xs H Q => ∃ i, xs = [.int i] ∧ Q (.int (if i < 0 then -i else i)) H) gAbs := fun mu H xs ds d Q hm t e k => by
  unfold gAbs at e
  split at e
  · obtain ⟨x, rfl, t1⟩ := one_of t
    cases e
    exact ⟨_, by rw [t1.inti], k _ H (fun _ _ z => z) (.int _)⟩
  · cases e
def gMax2 : List PyData → Option PyData
  | [.int i, .int j] => some (.int (if j > i then j else i))
  | _ => none
theorem ok_max2 : CallOk K (fun xs H Q => ∃ i j, xs = [.int i, .int j] ∧ Q (.int (if j > i then j else i)) H) gMax2 := fun mu H xs ds d Q hm t e k => by
  unfold gMax2 at e
  split at e
  · obtain ⟨x, y, rfl, t1, u⟩ := two_of t
    cases e
    exact ⟨_, _, by rw [t1.inti, u.inti], k _ H (fun _ _ z => z) (.int _)⟩
  · cases e
def gMin2 : List PyData → Option PyData
  | [.int i, .int j] => some (.int (if j < i then j else i))
  | _ => none
theorem ok_min2 : CallOk K (fun xs H Q => ∃ i j, xs = [.int i, .int j] ∧ Q (.int (if j < i then j else i)) H) gMin2 := fun mu H xs ds d Q hm t e k => by
  unfold gMin2 at e
  split at e
  · obtain ⟨x, y, rfl, t1, u⟩ := two_of t
    cases e
    exact ⟨_, _, by rw [t1.inti, u.inti], k _ H (fun _ _ z => z) (.int _)⟩
  · cases e
/-- int(..) of a number, of a truth -/
def gInt1 : List PyData → Option PyData
  | [.int i] => some (.int i)
  | [.bool b] => some (.int (if b then 1 else 0))
  | _ => none
theorem ok_int1 : CallOk K (fun xs H Q => (∃ i, xs = [.int i] ∧ Q (.int i) H) ∨ ∃ k, xs = [.bl k] ∧ Q (.int (if k then 1 else 0)) H) gInt1 := fun mu H xs ds d Q hm t e k => by
  unfold gInt1 at e
  split at e
  · obtain ⟨x, rfl, t1⟩ := one_of t
    cases e
    exact .inl ⟨_, by rw [t1.inti], k _ H (fun _ _ z => z) (.int _)⟩
  · obtain ⟨x, rfl, t1⟩ := one_of t
    cases e
    exact .inr ⟨_, by rw [t1.bool], k _ H (fun _ _ z => z) (.int _)⟩
  · cases e
/-- all, any of a list of truths -/
def truths : List PyData → Option (List Bool)
  | [] => some []
  | .bool b :: r => (truths r).map (b :: ·)
  | _ :: _ => none
theorem truths_map : ∀ {ds : List PyData} {bs : List Bool}, truths ds = some bs → ds = bs.map .bool
  | [], bs, h => by cases h; rfl
  | d :: r, bs, h => by
    unfold truths at h
    split at h
    · cases h; simp_all
    · rename_i b r' e
      simp only [Option.map_eq_some_iff] at h
      obtain ⟨bs', h1, h2⟩ := h
      injection e with e1 e2
      subst e1 e2 h2
      rw [List.map_cons, ← truths_map h1]
    · cases h
def gAll : List PyData → Option PyData
  | [.list ds] => (truths ds).map fun bs => .bool (bs.all id)
  | _ => none
theorem ok_all : CallOk K (rAll K) gAll := fun mu H xs ds d Q hm t e k => by
  unfold gAll at e
  split at e
  · obtain ⟨x, rfl, t1⟩ := one_of t
    simp only [Option.map_eq_some_iff] at e
    obtain ⟨bs, e1, e2⟩ := e
    cases e2
    obtain ⟨a, xs, rfl, h1, u1⟩ := t1.list
    rw [truths_map e1] at u1
    rw [u1.bools] at h1
    exact ⟨a, bs, rfl, h1, k _ H (fun _ _ z => z) (.bl _)⟩
  · cases e
def gAny : List PyData → Option PyData
  | [.list ds] => (truths ds).map fun bs => .bool (bs.any id)
  | _ => none
theorem ok_any : CallOk K (rAny K) gAny := fun mu H xs ds d Q hm t e k => by
  unfold gAny at e
  split at e
  · obtain ⟨x, rfl, t1⟩ := one_of t
    simp only [Option.map_eq_some_iff] at e
    obtain ⟨bs, e1, e2⟩ := e
    cases e2
    obtain ⟨a, xs, rfl, h1, u1⟩ := t1.list
    rw [truths_map e1] at u1
    rw [u1.bools] at h1
    exact ⟨a, bs, rfl, h1, k _ H (fun _ _ z => z) (.bl _)⟩
  · cases e
def gTuple : List PyData → Option PyData
  | [.list ds] => some (.tuple ds)
  | [.tuple ds] => some (.tuple ds)
  | _ => none
theorem ok_tuple : CallOk K (fun xs H Q => ∃ p ys, xs = [.ref p] ∧ ((SqL K H p ys ∧ NewT H ys Q) ∨ (SqT K H p ys ∧ Q (.ref p) H))) gTuple := fun mu H xs ds d Q hm t e k => by
  unfold gTuple at e
  split at e
  · obtain ⟨x, rfl, t1⟩ := one_of t
    cases e
    obtain ⟨a, xs, rfl, h1, u1⟩ := t1.list
    exact ⟨a, xs, rfl, .inl ⟨h1, fun l o hl ho => k _ _ (grow_new hl) (dt_newT ho hm hl u1)⟩⟩
  · obtain ⟨x, rfl, t1⟩ := one_of t
    cases e
    obtain ⟨a, xs, e1, h1, u1⟩ := t1.tuple
    subst e1
    exact ⟨a, xs, rfl, .inr ⟨h1, k _ H (fun _ _ z => z) t1⟩⟩
  · cases e
def gList : List PyData → Option PyData
  | [.list ds] => some (.list ds)
  | [.tuple ds] => some (.list ds)
  | _ => none
theorem ok_list : CallOk K (fun xs H Q => ∃ p ys, xs = [.ref p] ∧ (SqL K H p ys ∨ SqT K H p ys) ∧ ∀ l, H l = none → Q (.ref l) (upd H l (.lst ys))) gList := fun mu H xs ds d Q hm t e k => by
  unfold gList at e
  split at e
  · obtain ⟨x, rfl, t1⟩ := one_of t
    cases e
    obtain ⟨a, xs, rfl, h1, u1⟩ := t1.list
    exact ⟨a, xs, rfl, .inl h1, fun l hl => k _ _ (grow_new hl) (dt_newL hm hl u1)⟩
  · obtain ⟨x, rfl, t1⟩ := one_of t
    cases e
    obtain ⟨a, xs, rfl, h1, u1⟩ := t1.tuple
    exact ⟨a, xs, rfl, .inr h1, fun l hl => k _ _ (grow_new hl) (dt_newL hm hl u1)⟩
  · cases e
end
end Dl

namespace Dl
open PySem PySem.Spec PyProof.Rows L2

/-! ### == with a text, in among texts -/
/-- what may stand beside a text -/
def Okv (K : PySem.W.Frag) (H : Hp) (x : V) : Prop := flatV x = true ∨ ∃ a, x = .ref a ∧ ((∃ xs, SqL K H a xs) ∨ (∃ xs, SqT K H a xs) ∨ ∃ kvs, H a = some (.dK kvs))
def isTx (z : Str) : V → Bool
  | .str y => y == z
  | _ => false
section
variable {X : Cx} {K : PySem.W.Frag} {pins : List (Addr × Obj)} {σ : L2.St} {H : Hp} {s : Shared}
theorem isD_of (I : Inv X pins σ H s) {a : Addr} {kvs : List (Key × V)} (h : H a = some (.dK kvs)) : SeqAt.IsD s.heap a := by
  obtain ⟨_, _, vs, _, o, es, ep, h1, h2, h3, _⟩ := (show ObjOk X.prog X.w H s.heap a (.dK kvs) from I.hok a _ h)
  exact ⟨o, h1, h2.1, es, ep, h3⟩
theorem eq_text1 (I : Inv X pins σ H s) {A : Around} (hu : A.units < cLine) {x : V} {v : Value} {z : Str} {t : Tok} (rx : RelV x v) (h : Okv X.K H x) : SeqAt.EqAt A s v (.str z t) (isTx z x) := by
  rcases h with h | ⟨a, rfl, h⟩
  · have e := eqAt_V (A := A) (s := s) (y := x) (x := .str z) (u := v) (v := .str z t) rx ⟨t, rfl⟩ h rfl
    have e2 : eqV x (.str z) = isTx z x := by cases x <;> rfl
    rw [e2] at e; exact e
  · cases rx
    rcases h with ⟨xs, h⟩ | ⟨xs, h⟩ | ⟨kvs, h⟩
    · obtain ⟨its, r, p, _⟩ := I.list h
      exact SeqAt.EqAt.list_str z t p.isList hu
    · obtain ⟨its, r, p, _⟩ := I.tuple h
      exact SeqAt.EqAt.tuple_str z t p hu
    · exact SeqAt.EqAt.dict_str z t (isD_of I h) hu
theorem eq_text2 (I : Inv X pins σ H s) {A : Around} (hu : A.units < cLine) {x : V} {v : Value} {z : Str} {t : Tok} (rx : RelV x v) (h : Okv X.K H x) : SeqAt.EqAt A s (.str z t) v (isTx z x) := by
  rcases h with h | ⟨a, rfl, h⟩
  · have e := eqAt_V (A := A) (s := s) (y := .str z) (x := x) (u := .str z t) (v := v) ⟨t, rfl⟩ rx rfl h
    have e2 : eqV (.str z) x = isTx z x := by
      cases x <;> first | rfl | skip
      rename_i y
      show (z == y) = (y == z)
      rw [Bool.eq_iff_iff, beq_iff_eq, beq_iff_eq]
      exact ⟨Eq.symm, Eq.symm⟩
    rw [e2] at e; exact e
  · cases rx
    rcases h with ⟨xs, h⟩ | ⟨xs, h⟩ | ⟨kvs, h⟩
    · obtain ⟨its, r, p, _⟩ := I.list h
      exact SeqAt.EqAt.str_list z t p.isList hu
    · obtain ⟨its, r, p, _⟩ := I.tuple h
      exact SeqAt.EqAt.str_tuple z t p hu
    · exact SeqAt.EqAt.str_dict z t (isD_of I h) hu
end
section
variable {X : Cx} {K : PySem.W.Frag}
def rEqS (K : PySem.W.Frag) : R2 := fun x y H Q => ∃ z, y = .str z ∧ Okv K H x ∧ Q (.bl (isTx z x)) H
theorem op_eqS (hu : X.A.units + 1 < cLine) : OpR X (compareOp .Eq) (rEqS X.K) := fun pins s σ H x y v u Q I rx ry ⟨z, ey, ok, q⟩ => by
  subst ey
  obtain ⟨t, rfl⟩ := ry
  rcases ok with h | ⟨a, rfl, h⟩
  · refine op_eq pins s σ H x (.str z) v (.str z t) Q I rx ⟨t, rfl⟩ ⟨?_, ?_⟩
    · cases x <;> first | rfl | cases h
    · have e : decide (x = .str z) = isTx z x := by
        cases x <;> first | rfl | (cases h; done) | skip
        rw [dec_str]
        rfl
      rw [e]; exact q
  · cases rx
    have fin : EP X pins σ Q (.bool false) s := ⟨.bl false, H, I, rfl, q⟩
    rcases h with ⟨xs, h⟩ | ⟨xs, h⟩ | ⟨kvs, h⟩
    · obtain ⟨its, r, p, _⟩ := I.list h
      exact SeqAt.RcAt.list_str z t p.isList (by omega) X.prog X.w _ _ fin
    · obtain ⟨its, r, p, _⟩ := I.tuple h
      exact SeqAt.RcAt.tuple_str z t p (by omega) X.prog X.w _ _ fin
    · exact SeqAt.RcAt.dict_str z t (isD_of I h) (by omega) X.prog X.w _ _ fin
/-- the answer for an item that is a text -/
def txU (x : V) (u : Value) : Bool := match u with
  | .str z _ => isTx z x
  | _ => false
theorem any_txU {x : V} : ∀ {zs : List Str} {us : List Value}, Vals (zs.map V.str) us → us.any (txU x) = zs.any fun z => isTx z x
  | [], _, .nil => rfl
  | z :: zs, _, .cons r t => by
    obtain ⟨k, rfl⟩ := r
    rw [List.any_cons, List.any_cons, any_txU t]
    rfl
theorem mem_txU {pins : List (Addr × Obj)} {σ : L2.St} {H : Hp} {s : Shared} (I : Inv X pins σ H s) {A : Around} (hu : A.units < cLine) {x : V} {v : Value} (rx : RelV x v) (ok : Okv X.K H x) : ∀ {zs : List Str} {us : List Value}, Vals (zs.map V.str) us → ∀ u ∈ us, SeqAt.EqAt A s u v (txU x u)
  | [], _, .nil => fun u hu => by cases hu
  | z :: zs, _, .cons r t => fun u' hm => by
    rcases List.mem_cons.mp hm with e | hm
    · obtain ⟨k, e2⟩ := r
      rw [e, e2]
      exact eq_text2 I hu rx ok
    · exact mem_txU I hu rx ok t u' hm
def rInTx (K : PySem.W.Frag) (neg : Bool) : R2 := fun x y H Q => ∃ p, ∃ zs : List Str, y = .ref p ∧ (SqL K H p (zs.map V.str) ∨ SqT K H p (zs.map V.str)) ∧ Okv K H x ∧ Q (.bl (if neg then !(zs.any fun z => isTx z x) else zs.any fun z => isTx z x)) H
theorem op_inTx (hu : X.A.units + 1 < cLine) : OpR X (compareOp .In) (rInTx X.K false) := fun pins s σ H x y v u Q I rx ry ⟨p, zs, ey, hq, ok, q⟩ => by
  subst ey
  cases ry
  have hu1 : X.A.in1.units < cLine := hu
  rcases hq with hq | hq
  · obtain ⟨its, r, pl, _⟩ := I.list hq
    refine SeqAt.in_listAt (txU x) pl.isList (fun w hw => mem_txU I hu1 rx ok r w (by simpa using hw)) ⟨.bl _, H, I, rfl, ?_⟩
    rw [show its.toArray.any (txU x) = its.any (txU x) by simp, any_txU r]; exact q
  · obtain ⟨its, r, pl, _⟩ := I.tuple hq
    refine SeqAt.in_tupleAt (txU x) pl (fun w hw => mem_txU I hu1 rx ok r w (by simpa using hw)) ⟨.bl _, H, I, rfl, ?_⟩
    rw [show its.toArray.any (txU x) = its.any (txU x) by simp, any_txU r]; exact q
theorem op_notInTx (hu : X.A.units + 1 < cLine) : OpR X (compareOp .NotIn) (rInTx X.K true) := fun pins s σ H x y v u Q I rx ry ⟨p, zs, ey, hq, ok, q⟩ => by
  subst ey
  cases ry
  have hu1 : X.A.in1.units < cLine := hu
  rcases hq with hq | hq
  · obtain ⟨its, r, pl, _⟩ := I.list hq
    refine SeqAt.notIn_listAt (txU x) pl.isList (fun w hw => mem_txU I hu1 rx ok r w (by simpa using hw)) ⟨.bl _, H, I, rfl, ?_⟩
    rw [show its.toArray.any (txU x) = its.any (txU x) by simp, any_txU r]; exact q
  · obtain ⟨its, r, pl, _⟩ := I.tuple hq
    refine SeqAt.notIn_tupleAt (txU x) pl (fun w hw => mem_txU I hu1 rx ok r w (by simpa using hw)) ⟨.bl _, H, I, rfl, ?_⟩
    rw [show its.toArray.any (txU x) = its.any (txU x) by simp, any_txU r]; exact q
end
/-- neither the script nor what holds it -/
def plainD : PyData → Bool
  | .dict kvs => realD kvs
  | _ => true
section
variable {X : Cx} {K : PySem.W.Frag} {mu : Addr → Prop} {H : Hp}
theorem okv_of {v : V} {d : PyData} (t : Dt K mu H v d) (r : plainD d = true) : Okv K H v := by
  cases t with
  | lst h _ _ => exact .inr ⟨_, rfl, .inl ⟨_, .inl h⟩⟩
  | scr _ _ => cases r
  | tup h _ _ => exact .inr ⟨_, rfl, .inr (.inl ⟨_, .inl h.rd⟩)⟩
  | tupK h _ _ => exact .inr ⟨_, rfl, .inr (.inl ⟨_, h H⟩)⟩
  | dct h _ _ => exact .inr ⟨_, rfl, .inr (.inr ⟨_, h⟩)⟩
  | dcT _ _ _ => cases r
  | exc _ _ => cases r
  | _ => exact .inl rfl
theorem isTx_eqv {v : V} {d : PyData} {z : Str} (t : Dt K mu H v d) : isTx z v = PyData.eqv d (.str z) := by
  cases t <;> simp [isTx, PyData.eqv]
def strsD : List PyData → Option (List Str)
  | [] => some []
  | .str x :: r => (strsD r).map (x :: ·)
  | _ :: _ => none
theorem strsD_map : ∀ {ds : List PyData} {zs : List Str}, strsD ds = some zs → ds = zs.map .str
  | [], zs, h => by cases h; rfl
  | d :: r, zs, h => by
    unfold strsD at h
    split at h
    · rename_i e; cases e
    · rename_i x r' e
      simp only [Option.map_eq_some_iff] at h
      obtain ⟨ws, h1, h2⟩ := h
      injection e with e1 e2
      subst e1 e2 h2
      rw [List.map_cons, ← strsD_map h1]
    · cases h
/-- in, not in -/
def inD (neg : Bool) (d : PyData) (ds : List PyData) : Option PyData :=
  if scalD d = true ∧ ds.all scalD = true then some (.bool (if neg then !ds.any (fun z => PyData.eqv z d) else ds.any fun z => PyData.eqv z d))
  else if plainD d = true then (strsD ds).map fun zs => .bool (if neg then !(zs.any fun z => PyData.eqv d (.str z)) else zs.any fun z => PyData.eqv d (.str z)) else none
def gIn (neg : Bool) : PyData → PyData → Option PyData
  | d, .list ds => inD neg d ds
  | d, .tuple ds => inD neg d ds
  | .str x, .str z => if x.cps.size = 1 then some (.bool (if neg then !decide (x.cps.getD 0 0 ∈ z.cps.toList) else decide (x.cps.getD 0 0 ∈ z.cps.toList))) else none
  | _, _ => none
def rInA (K : PySem.W.Frag) (neg : Bool) : R2 := fun x y H Q => (rIn K neg x y H Q ∨ rInTx K neg x y H Q) ∨ ∃ (c : Nat) (z : Str), x = .str ⟨#[c]⟩ ∧ y = .str z ∧ Q (.bl (if neg then !decide (c ∈ z.cps.toList) else decide (c ∈ z.cps.toList))) H
theorem op_inA (hu : X.A.units + 1 < cLine) : OpR X (compareOp .In) (rInA X.K false) := OpR.or (OpR.or op_in_seq (op_inTx hu)) op_in_sign
theorem op_notInA (hu : X.A.units + 1 < cLine) : OpR X (compareOp .NotIn) (rInA X.K true) := OpR.or (OpR.or op_notIn_seq (op_notInTx hu)) op_notIn_sign
theorem inD_ok {neg : Bool} {x : V} {d1 d : PyData} {ds : List PyData} {p : Addr} {xs : List V} {Q : VK} (t1 : Dt K mu H x d1) (h1 : SqL K H p xs ∨ SqT K H p xs) (u : DtAll K mu H xs ds) (e : inD neg d1 ds = some d)
    (k : ∀ v H', (∀ a o, H a = some o → H' a = some o) → Dt K mu H' v d → Q v H') : rInA K neg x (.ref p) H Q := by
  unfold inD at e
  split at e
  · rename_i hc
    cases e
    refine .inl (.inl ⟨p, xs, rfl, h1, scal_v t1 hc.1, scal_vs u hc.2, ?_⟩)
    rw [scal_any t1 hc.1 u hc.2]
    exact k _ H (fun _ _ z => z) (.bl _)
  · split at e
    case isFalse => cases e
    rename_i hp
    simp only [Option.map_eq_some_iff] at e
    obtain ⟨zs, e1, e2⟩ := e
    subst e2
    rw [strsD_map e1] at u
    rw [u.texts] at h1
    refine .inl (.inr ⟨p, zs, rfl, h1, okv_of t1 hp, ?_⟩)
    have q : (zs.any fun z => isTx z x) = zs.any fun z => PyData.eqv d1 (.str z) := by
      congr 1
      funext z
      exact isTx_eqv t1
    rw [q]
    exact k _ H (fun _ _ z => z) (.bl _)
theorem ok_in {neg : Bool} : OpOk K (rInA K neg) (gIn neg) := fun mu H x y d1 d2 d Q hm t1 t2 e k => by
  unfold gIn at e
  split at e
  · obtain ⟨p, xs, rfl, h1, u⟩ := t2.list
    exact inD_ok t1 (.inl h1) u e k
  · obtain ⟨p, xs, rfl, h1, u⟩ := t2.tuple
    exact inD_ok t1 (.inr h1) u e k
  · rename_i x1 z1
    split at e
    case isFalse => cases e
    rename_i hc
    cases e
    have ex : x1 = ⟨#[x1.cps.getD 0 0]⟩ := by
      obtain ⟨⟨l⟩⟩ := x1
      cases l with
      | nil => simp at hc
      | cons c r =>
        cases r with
        | nil => rfl
        | cons _ _ => simp at hc
    exact .inr ⟨x1.cps.getD 0 0, z1, by rw [t1.text, ← ex], t2.text, k _ H (fun _ _ z => z) (.bl _)⟩
  · cases e

/-! ### ==, != of data -/
mutual
/-- no dict in it -/
def noDct : PyData → Bool
  | .dict _ => false
  | .list xs => noDcts xs
  | .tuple xs => noDcts xs
  | _ => true
def noDcts : List PyData → Bool
  | [] => true
  | x :: xs => noDct x && noDcts xs
end
mutual
theorem Dt.dp : ∀ {v : V} {d : PyData}, Dt K mu H v d → noDct d = true → Dp K H v d
  | _, _, .non, _ => .non
  | _, _, .bl b, _ => .bl b
  | _, _, .int i, _ => .int i
  | _, _, .str x, _ => .str x
  | _, _, .lst h n t, e => .lst (.inl h) (DtAll.dp t (by simpa [noDct] using e))
  | _, _, .tup h n t, e => .tup (.inl h.rd) (DtAll.dp t (by simpa [noDct] using e))
  | _, _, .tupK h _ t, e => .tup (h H) (DtAll.dp t (by simpa [noDct] using e))
  | _, _, .scr h t, e => by simp [noDct] at e
  | _, _, .dct h n t, e => by simp [noDct] at e
theorem DtAll.dp : ∀ {vs : List V} {ds : List PyData}, DtAll K mu H vs ds → noDcts ds = true → DpAll K H vs ds
  | _, _, .nil, _ => .nil
  | _, _, .cons h t, e => by
    simp only [noDcts, Bool.and_eq_true] at e
    exact .cons (Dt.dp h e.1) (DtAll.dp t e.2)
end
def isStrD : PyData → Bool
  | .str _ => true
  | _ => false
def isTupD : PyData → Option (List PyData)
  | .tuple ds => some ds
  | _ => none
/-- may both be compared by this layer: one is a text, or neither holds a dict -/
def gEq (d e : PyData) : Option PyData :=
  if isStrD e = true ∧ plainD d = true then some (.bool (PyData.eqv d e))
  else if (noDct d = true ∧ noDct e = true) ∧ SeqAt.shaped d = true ∧ SeqAt.shaped e = true then some (.bool (PyData.eqv d e))
  else match d, e with
    | .tuple ds, .tuple [] => some (.bool ds.isEmpty)
    | _, _ => none
def rEqT0 (K : PySem.W.Frag) : R2 := fun x y H Q => ∃ a b xs, x = .ref a ∧ y = .ref b ∧ SqT K H a xs ∧ SqT K H b [] ∧ Q (.bl xs.isEmpty) H
theorem op_eqT0 (hu : X.A.units + 1 < cLine) : OpR X (compareOp .Eq) (rEqT0 X.K) := fun pins s σ H x y v u Q I rx ry ⟨a, b, xs, ex, ey, h1, h2, q⟩ => by
  subst ex ey
  cases rx
  cases ry
  obtain ⟨its, r, p, _⟩ := I.tuple h1
  obtain ⟨its2, r2, p2, _⟩ := I.tuple h2
  cases r2
  refine PySem.W.eq_tuplesT (n := 0) (e := fun _ => true) p p2 (fun j h1 h2 => absurd h2 (by simp)) hu ⟨.bl xs.isEmpty, H, I, ?_, q⟩
  have hl := r.length
  cases xs with
  | nil =>
    cases r
    rfl
  | cons x xs =>
    cases r
    simp
    rfl
def rEqA (K : PySem.W.Frag) : R2 := fun x y H Q => (rEqS K x y H Q ∨ rEqD K x y H Q) ∨ rEqT0 K x y H Q
theorem op_eqA (hu : X.A.units + 64 < cLine) : OpR X (compareOp .Eq) (rEqA X.K) := OpR.or (OpR.or (op_eqS (by omega)) (op_eqD hu)) (op_eqT0 (by omega))
theorem ok_eq : OpOk K (rEqA K) gEq := fun mu H x y d1 d2 d Q hm t1 t2 e k => by
  unfold gEq at e
  split at e
  · rename_i hc
    cases e
    cases d2 with
    | str z =>
      refine .inl (.inl ⟨z, t2.text, okv_of t1 hc.2, ?_⟩)
      rw [isTx_eqv t1]
      exact k _ H (fun _ _ z => z) (.bl _)
    | _ => exact absurd hc.1 (by simp [isStrD])
  · split at e
    · rename_i hc
      cases e
      exact .inl (.inr ⟨d1, d2, t1.dp hc.1.1, t2.dp hc.1.2, hc.2.1, hc.2.2, k _ H (fun _ _ z => z) (.bl _)⟩)
    · split at e
      · rename_i ds0 _ _
        cases e
        obtain ⟨a, xs, rfl, h1, u1⟩ := t1.tuple
        obtain ⟨b, ys, rfl, h2, u2⟩ := t2.tuple
        cases u2
        have el : xs.isEmpty = ds0.isEmpty := by cases u1 <;> rfl
        refine .inr ⟨a, b, xs, rfl, rfl, h1, h2, ?_⟩
        rw [el]
        exact k _ H (fun _ _ z => z) (.bl _)
      · cases e
def gNe (d e : PyData) : Option PyData := if isStrD d = true ∧ isStrD e = true then some (.bool (!PyData.eqv d e))
  else if (noDct d = true ∧ noDct e = true) ∧ SeqAt.shaped d = true ∧ SeqAt.shaped e = true then some (.bool (!PyData.eqv d e)) else none
def rNeA (K : PySem.W.Frag) : R2 := fun x y H Q => rNe x y H Q ∨ rNeD K x y H Q
theorem op_neA (hu : X.A.units + 64 < cLine) : OpR X (compareOp .NotEq) (rNeA X.K) := OpR.or op_ne (op_neD hu)
theorem ok_ne : OpOk K (rNeA K) gNe := fun mu H x y d1 d2 d Q hm t1 t2 e k => by
  unfold gNe at e
  split at e
  · rename_i hc
    cases e
    cases d1 with
    | str a =>
      cases d2 with
      | str b =>
        have e1 := t1.text
        have e2 := t2.text
        subst e1 e2
        have q : (!decide (V.str a = V.str b)) = !PyData.eqv (.str a) (.str b) := by
          have e3 : PyData.eqv (.str a) (.str b) = (a == b) := rfl
          rw [e3]
          by_cases q : a = b
          · subst q; simp
          · have q2 : (a == b) = false := beq_eq_false_iff_ne.mpr q
            rw [q2]
            simp [q]
        exact .inl ⟨rfl, by rw [q]; exact k _ H (fun _ _ z => z) (.bl _)⟩
      | _ => cases hc.2
    | _ => cases hc.1
  · split at e
    · rename_i hc
      cases e
      exact .inr ⟨d1, d2, t1.dp hc.1.1, t2.dp hc.1.2, hc.2.1, hc.2.2, k _ H (fun _ _ z => z) (.bl _)⟩
    · cases e
/-- is, is not of truths, of None -/
def gIs (neg : Bool) : PyData → PyData → Option PyData
  | .bool a, .bool b => some (.bool (if neg then !decide (a = b) else decide (a = b)))
  | _, _ => none
theorem ok_isnot_bl : OpOk K (fun x y H Q => ∃ a b, x = .bl a ∧ y = .bl b ∧ Q (.bl (!decide (a = b))) H) (gIs true) := fun mu H x y d1 d2 d Q hm t1 t2 e k => by
  unfold gIs at e
  split at e
  · cases e
    exact ⟨_, _, t1.bool, t2.bool, k _ H (fun _ _ z => z) (.bl _)⟩
  · cases e
theorem ok_is_bl : OpOk K (fun x y H Q => ∃ a b, x = .bl a ∧ y = .bl b ∧ Q (.bl (decide (a = b))) H) (gIs false) := fun mu H x y d1 d2 d Q hm t1 t2 e k => by
  unfold gIs at e
  split at e
  · cases e
    exact ⟨_, _, t1.bool, t2.bool, k _ H (fun _ _ z => z) (.bl _)⟩
  · cases e
end
end Dl

namespace Dl
open PySem PySem.Spec PyProof.Rows L2

/-! ### isinstance -/
/-- the class of a tree -/
def tyD : PyData → Option String
  | .none => some "NoneType"
  | .bool _ => some "bool"
  | .int _ => some "int"
  | .str _ => some "str"
  | .list _ => some "list"
  | .tuple _ => some "tuple"
  | .dict kvs => if realD kvs = true then some "dict" else none
def isiB (a T : String) : Bool := a == T || (a == "bool" && T == "int")
/-- what the library's table says of such a class -/
def IsiT (T : String) : Prop := ∀ a ∈ ["NoneType", "bool", "int", "str", "list", "tuple", "dict"], kitB a T = some (isiB a T)
theorem isi_str : IsiT "str" := by unfold IsiT; decide +kernel
theorem isi_tuple : IsiT "tuple" := by unfold IsiT; decide +kernel
theorem isi_int : IsiT "int" := by unfold IsiT; decide +kernel
theorem isi_bool : IsiT "bool" := by unfold IsiT; decide +kernel
theorem isi_list : IsiT "list" := by unfold IsiT; decide +kernel
theorem isi_dict : IsiT "dict" := by unfold IsiT; decide +kernel
def gIsi (T : String) (d : PyData) : Option PyData := (tyD d).map fun a => .bool (isiB a T)
section
variable {X : Cx} {K : PySem.W.Frag} {mu : Addr → Prop} {H : Hp} {Z : Par} {a b e : Expr} {es : List Expr} {pos : Pos} {fa fb fc : DE} {ga : DA}
theorem tyD_mem {d : PyData} {n : String} (h : tyD d = some n) : n ∈ ["NoneType", "bool", "int", "str", "list", "tuple", "dict"] := by
  unfold tyD at h
  split at h <;> first | (cases h; decide) | (split at h <;> first | (cases h; decide) | cases h)
theorem tyX_of {v : V} {d : PyData} {n : String} (t : Dt K mu H v d) (h : tyD d = some n) : TyX K H v (.type n) := by
  cases t with
  | non => cases h; exact .base .non
  | bl b => cases h; exact .base (.bl b)
  | int i => cases h; exact .base (.int i)
  | str x => cases h; exact .base (.str x)
  | lst r _ _ =>
    cases h
    rcases r with r | ⟨o, r⟩
    · exact .base (.lst r)
    · exact .base (.frz r)
  | tup r _ _ =>
    cases h
    obtain ⟨o, r, _⟩ := r
    exact .fTuple r
  | tupK r _ _ =>
    cases h
    rcases r (fun _ => none) with (r | ⟨o, r⟩) | ⟨o, its, m, h1, h2, _⟩
    · cases r
    · cases r
    · exact .kTuple h1 h2
  | scr _ _ =>
    simp [tyD, realD] at h
  | dcT _ _ _ =>
    simp [tyD, realD] at h
  | exc _ _ =>
    simp [tyD, realD] at h
  | dct r _ _ =>
    simp only [tyD] at h
    split at h
    · cases h; exact .base (.dK r)
    · cases h
/-- isinstance(e, T) -/
theorem disi {T : String} {x c : Str} {p p2 : Pos} (hT : IsiT T) (hg : Gl X x) (hm : X.mg x = none) (hv : bootBuiltins x = some (.builtin "isinstance")) (hg2 : Gl X c) (hm2 : X.mg c = none) (hv2 : bootBuiltins c = some (.type T)) (ha : PE X e (lft X.K Z fa))
    (hn : x ≠ "__name__" := by decide) (hdb : (x == ("__debug__" : Str)) = false := by decide) (hn2 : c ≠ "__name__" := by decide) (hdb2 : (c == ("__debug__" : Str)) = false := by decide)
    (he : starEach [e, .Name c p2] X.env = (false, eval e X.env) :: starEach [.Name c p2] X.env := by rfl) (he2 : starEach [.Name c p2] X.env = (false, eval (.Name c p2) X.env) :: starEach [] X.env := by rfl) (hpl : (backTo pos (starEach [.Name c p2] X.env)).any (·.1) = false := by rfl) :
    PE X (.Call (.Name x p) [e, .Name c p2] [] pos) (lft X.K Z (dUn (gIsi T) fa)) := PEimp (pe_callB call_isi hg hm hv (pa_cons ha (pa_cons (pe_bltn (v := .ty T) hg2 hm2 hv2 rfl hn2 hdb2) pa_nil he2) he) hn hdb he hpl) fun σ H Q h => by
  obtain ⟨M, s, d, s', rl, hf, k⟩ := h
  obtain ⟨d1, h1, h3⟩ := dUn_some hf
  unfold gIsi at h3
  simp only [Option.map_eq_some_iff] at h3
  obtain ⟨n, h4, h5⟩ := h3
  subst h5
  refine ⟨M, s, d1, s', rl, h1, fun v H1 k1 r1 t1 => ?_⟩
  exact ⟨v, .ty T, .type n, .type T, _, rfl, .ty T, tyX_of t1 h4, kit_ty (hT n (tyD_mem h4)), k _ H1 k1 r1 (.bl _)⟩

/-! ### slices -/
abbrev DO := Sl → Option (Option Int × Sl)
def oN : DO := fun s => some (none, s)
def oS (f : DE) : DO := fun s => (f s).bind fun p => match p.1 with
  | .int i => some (some i, p.2)
  | _ => none
def lfO (K : PySem.W.Frag) (Z : Par) (f : DO) : TO := fun σ H Q => ∃ M s d s', Rel K Z M σ H s ∧ f s = some (d, s') ∧ ∀ H', Kq Z M H M H' → Rel K Z M σ H' s' → Q d H'
theorem POimp {X : Cx} {e : Option Expr} {t t' : TO} (h : PO X e t) (i : ∀ σ H Q, t' σ H Q → t σ H Q) : PO X e t' := ⟨fun pins s σ H Q I q => h.run pins s σ H Q I (i σ H Q q)⟩
theorem don : PO X none (lfO X.K Z oN) := POimp po_none fun σ H Q h => by
  obtain ⟨M, s, d, s', rl, hf, k⟩ := h
  cases hf
  exact k H (Kq.refl _ _ _) rl
theorem dos (h : PE X e (lft X.K Z fa)) : PO X (some e) (lfO X.K Z (oS fa)) := POimp (po_some h) fun σ H Q h => by
  obtain ⟨M, s, d, s', rl, hf, k⟩ := h
  unfold oS at hf
  simp only [Option.bind_eq_some_iff] at hf
  obtain ⟨⟨d1, s1⟩, h1, h2⟩ := hf
  dsimp only at h2
  split at h2
  · cases h2
    exact ⟨M, s, _, _, rl, h1, fun v H1 k1 r1 t1 => ⟨_, t1.inti, k H1 k1 r1⟩⟩
  · cases h2
def cutD (xs : List PyData) (lo hi : Option Int) : List PyData := (xs.drop (HT.sIx xs.length 0 lo)).take (HT.sIx xs.length xs.length hi - HT.sIx xs.length 0 lo)
theorem cut_dt {xs : List V} {ds : List PyData} (t : DtAll K mu H xs ds) (lo hi : Option Int) : DtAll K mu H (cutV xs lo hi) (cutD ds lo hi) := by
  unfold cutV cutD
  rw [t.len]
  exact (t.drop _).take _
def gSl (d : PyData) (lo hi : Option Int) : Option PyData := match d with
  | .list ds => some (.list (cutD ds lo hi))
  | .tuple ds => some (.tuple (cutD ds lo hi))
  | .str x => if x.length ≤ sizeLine then some (.str (cutS x lo hi)) else none
  | _ => none
def dSl (f : DE) (lo hi : DO) : DE := fun s => (f s).bind fun p => (lo p.2).bind fun q => (hi q.2).bind fun r => (gSl p.1 q.1 r.1).map fun d => (d, r.2)
def rSlZ (K : PySem.W.Frag) : V → Option Int → Option Int → Hp → VK → Prop := fun x lo hi H Q => (rSlF K x lo hi H Q ∨ rSlL K x lo hi H Q) ∨ rSlS x lo hi H Q
theorem sl_Z : SlR X (rSlZ X.K) := SlR.or (SlR.or sl_tupF sl_list) sl_str
theorem whole_cut (ds : List PyData) {lo hi : Option Int} (h : HT.sIx ds.length 0 lo = 0 ∧ HT.sIx ds.length ds.length hi = ds.length) : cutD ds lo hi = ds := by
  unfold cutD
  rw [h.1, h.2]
  simp
theorem dsl {lo hi : Option Expr} {flo fhi : DO} {p2 : Pos} (he : PE X e (lft X.K Z fa)) (hl : PO X lo (lfO X.K Z flo)) (hu : PO X hi (lfO X.K Z fhi)) : PE X (.Subscript e (.Slice lo hi none p2) pos) (lft X.K Z (dSl fa flo fhi)) := PEimp (pe_slice sl_Z he hl hu) fun σ H Q h => by
  obtain ⟨M, s, d, s', rl, hf, k⟩ := h
  unfold dSl at hf
  simp only [Option.bind_eq_some_iff, Option.map_eq_some_iff] at hf
  obtain ⟨⟨d1, s1⟩, h1, ⟨o1, s2⟩, h2, ⟨o2, s3⟩, h3, d2, h4, h5⟩ := hf
  cases h5
  refine ⟨M, s, d1, s1, rl, h1, fun v H1 k1 r1 t1 => ⟨M, s1, o1, s2, r1, h2, fun H2 k2 r2 => ⟨M, s2, o2, _, r2, h3, fun H3 k3 r3 => ?_⟩⟩⟩
  have t3 := t1.mono (k2.trans k3).kp
  have kk := k1.trans (k2.trans k3)
  unfold gSl at h4
  dsimp only at h4
  split at h4
  · cases h4
    obtain ⟨a, xs, rfl, g1, u1⟩ := t3.list
    exact .inl (.inr ⟨a, xs, rfl, g1, fun p hp => k _ _ (kk.trans (kq_grow (grow_new hp))) (r3.grow (grow_new hp)) (dt_newL r3.muT hp (cut_dt u1 _ _))⟩)
  · cases h4
    obtain ⟨a, xs, ea, g1, u1⟩ := t3.tuple
    subst ea
    refine .inl (.inl ⟨a, xs, rfl, g1, fun hw => ?_, fun _ p o hp ho => k _ _ (kk.trans (kq_grow (grow_new hp))) (r3.grow (grow_new hp)) (dt_newT ho r3.muT hp (cut_dt u1 _ _))⟩)
    rw [u1.len] at hw
    rw [whole_cut _ hw] at k
    exact k _ _ kk r3 t3
  · split at h4
    case isFalse => cases h4
    cases h4
    exact .inr ⟨_, t3.text, by assumption, k _ _ kk r3 (.str _)⟩
  · cases h4
end

/-! ### a tuple turned about -/
section
variable {prog : Program} {w : World} {A : Around} {E : Value → Shared → Prop} {s : Shared}
theorem applied_rev {sl : Addr} {vl vu vs : Value} {n : Nat} {Q : Int × Int × Nat → Shared → Prop} (hs : s.heap.IsSliceOf sl vl vu vs) (pl : IsPart vl none) (pu : IsPart vu none) (ps : IsPart vs (some (-1)))
    (h : Q ((n : Int) - 1, -1, n) s) : wpAny (model prog w) A (Builtin.Slice.sliceApplied (.ref sl) (pure (n : Int))) Q E s := by
  obtain ⟨os, hos, hcs, hds⟩ := id hs
  unfold Builtin.Slice.sliceApplied Builtin.Slice.sliceFields
  refine wpAny_bind (wpAny_bind (wpAny_field hos hds (x := vl) rfl (wpAny_bind (wpAny_field hos hds (x := vu) rfl (wpAny_bind (wpAny_field hos hds (x := vs) rfl (wpAny_pure ?_)))))))
  refine wpAny_bind (HT.slicePart_ ps ?_)
  show wpAny _ _ (if ((-1 : Int) == 0) = true then _ else _) _ _ s
  rw [if_neg (by decide)]
  refine wpAny_bind (HT.slicePart_ pl (wpAny_bind (HT.slicePart_ pu (wpAny_bind (wpAny_pure ?_)))))
  have e1 : Builtin.Slice.sliceAdjust none none (-1) (n : Int) = ((n : Int) - 1, -1) := rfl
  have e2 : Builtin.Slice.slicePlaces ((n : Int) - 1) (-1) (-1) = n := by
    unfold Builtin.Slice.slicePlaces
    rw [if_neg (by decide)]
    split
    · simp only [Int.neg_neg, Int.ediv_one]; omega
    · simp only [Int.toNat_zero]; omega
  show wpAny _ _ (match Builtin.Slice.sliceAdjust none none (-1) (n : Int) with | (lo, hi) => pure (lo, (-1 : Int), Builtin.Slice.slicePlaces lo hi (-1))) _ _ s
  rw [e1]
  show wpAny _ _ (pure ((n : Int) - 1, (-1 : Int), Builtin.Slice.slicePlaces ((n : Int) - 1) (-1) (-1))) _ _ s
  rw [e2]
  exact wpAny_pure h
theorem filterMap_some {α β : Type} {f : α → Option β} {g : α → β} : ∀ l : List α, (∀ m ∈ l, f m = some (g m)) → l.filterMap f = l.map g
  | [], _ => rfl
  | a :: l, h => by
    rw [List.filterMap_cons, h a List.mem_cons_self, List.map_cons, filterMap_some l fun m hm => h m (List.mem_cons_of_mem _ hm)]
theorem pick_rev (xs : Array Value) : ((List.range xs.size).filterMap fun (m : Nat) => xs[(((xs.size : Int) - 1) + (m : Int) * (-1)).toNat]?).toArray = xs.toList.reverse.toArray := by
  congr 1
  rw [filterMap_some (g := fun m => (xs.toList.reverse[m]?).getD .none) _ fun m hm => ?_]
  · apply List.ext_getElem?
    intro i
    by_cases hi : i < xs.size
    · have hl : i < xs.toList.reverse.length := by simpa using hi
      rw [List.getElem?_map, List.getElem?_range hi, List.getElem?_eq_getElem hl]
      simp only [Option.map_some, List.getElem?_eq_getElem hl, Option.getD_some]
    · rw [List.getElem?_eq_none (by simpa using hi), List.getElem?_eq_none (by simpa using hi)]
  · have hm := List.mem_range.mp hm
    have e : (((xs.size : Int) - 1) + (m : Int) * (-1)).toNat = xs.size - 1 - m := by omega
    have hl : m < xs.toList.reverse.length := by simpa using hm
    rw [e, ← Array.getElem?_toList, List.getElem?_eq_getElem hl, List.getElem_reverse, List.getElem?_eq_getElem (by simp; omega)]
    simp
theorem getItem_tuple_rev {t sl : Addr} {items : Array Value} {vl vu vs : Value} {Q : Value → Shared → Prop} (ht : IsTup s.heap t items) (hs : s.heap.IsSliceOf sl vl vu vs) (pl : IsPart vl none) (pu : IsPart vu none) (ps : IsPart vs (some (-1)))
    (h : Q (.ref s.heap.objs.size) { s with heap := s.heap.push { cls := .type "tuple", data := .seq items.toList.reverse.toArray } }) (hsz : items.size ≤ sizeLine) : wpAny (model prog w) A (getItem (.ref t) (.ref sl)) Q E s := by
  have hok : sizeOk (.seq items.toList.reverse.toArray) := by
    show items.toList.reverse.toArray.size ≤ sizeLine
    rw [List.size_toArray, List.length_reverse, Array.length_toList]
    exact hsz
  obtain ⟨os, hos, hcs, hds⟩ := id hs
  have hTy : s.TypeIs (.ref sl) "slice" := ⟨os, hos, hcs⟩
  unfold getItem
  try with_reducible refine wpAny_holding ?_
  first | refine wpAny_bind (wpAny_pure ?_) | skip
  refine wpAny_bind (wpAny_sequenceKey ht.typeIs (by decide) ?_)
  refine wpAny_bind (wpAny_callSpecial?_slot (name := Str.ofString "__getitem__") ht.typeIs PyProof.Rows.slot_tuple_getitem (wpAny_call_entry PyProof.Rows.slot_tuple_getitem ht.typeIs entry_tuple_getitem ?_ (args_tuple_getitem _ _)))
  show wpAny _ _ (Builtin.Tuple.tupleItemsOf (.ref t) >>= _) _ _ s
  refine wpAny_bind (tupleItemsOf_ ht ?_)
  refine wpAny_bind (wpAny_typeOf hTy ?_)
  rw [if_pos (by decide)]
  refine wpAny_bind (applied_rev hs pl pu ps ?_)
  have hno : ¬ ((((items.size : Int) - 1) == 0 && (-1 : Int) == 1 && items.size == items.size) = true) := by simp
  show wpAny _ _ (if (((items.size : Int) - 1) == 0 && (-1 : Int) == 1 && items.size == items.size) = true then _ else _) _ _ s
  rw [if_neg hno, pick_rev]
  first
    | exact wpAny_bind (m := Builtin.Tuple.tupleExact _) (wpAny_newObj_type (wpAny_pure ⟨_, rfl, wpAny_pure h⟩) hok)
    | exact wpAny_bind (m := Builtin.Tuple.tupleExact _) (wpAny_newObj_type (wpAny_bind (wpAny_pure (wpAny_pure ⟨_, rfl, wpAny_pure h⟩))) hok)
    | exact wpAny_bind (wpAny_bind (m := Builtin.Tuple.tupleExact _) (wpAny_newObj_type (wpAny_pure (wpAny_pure ⟨_, rfl, wpAny_pure h⟩)) hok))
    | exact wpAny_bind (wpAny_bind (m := Builtin.Tuple.tupleExact _) (wpAny_newObj_type (wpAny_pure ⟨_, rfl, wpAny_pure h⟩) hok))
end
def gRev : PyData → Option PyData
  | .tuple ds => some (.tuple ds.reverse)
  | _ => none
section
variable {X : Cx} {K : PySem.W.Frag} {mu : Addr → Prop} {H : Hp} {Z : Par} {a b e : Expr} {es : List Expr} {pos : Pos} {fa fb fc : DE} {ga : DA}
def tRevT (K : PySem.W.Frag) (te : TE) : TE := fun σ H Q => te σ H fun x H1 => ∃ a xs, x = .ref a ∧ SqT K H1 a xs ∧ NewT H1 xs.reverse Q
theorem pe_revT {te : TE} {k : Nat} {p1 p2 p3 : Pos} (he : PE X e te) : PE X (.Subscript e (.Slice none none (some (.UnaryOp .USub (.Constant (.int 1) k p1) p2)) p3) pos) (tRevT X.K te) := by
  refine ⟨fun pins s σ H Q I h => ?_⟩
  refine Subscript_ (thn (he.run pins s σ H _ I h) fun v s1 ⟨x, H1, I1, r1, a, xs, ex, hx, q⟩ => ?_)
  subst ex
  cases r1
  have part3 : PO X (some (.UnaryOp .USub (.Constant (.int 1) k p1) p2)) (tPart (tUn (rU fun i => .int (-i)) (tC (.int 1)))) := po_some (pe_un un_neg pe_int)
  refine wpAny_Slice (thn (po_none.run pins s1 σ H1 (fun o H2 => o = none ∧ H2 = H1) I1 ⟨rfl, rfl⟩) fun vl s2 ⟨l, H2, I2, pl, el, e2⟩ => ?_)
  subst el e2
  refine thn (po_none.run pins s2 σ H2 (fun o H3 => o = none ∧ H3 = H2) I2 ⟨rfl, rfl⟩) fun vu s3 ⟨u, H3, I3, pu, eu, e3⟩ => ?_
  subst eu e3
  refine thn (part3.run pins s3 σ H3 (fun o H4 => o = some (-1) ∧ H4 = H3) I3 ⟨1, rfl, -1, rfl, rfl, rfl⟩) fun vs s4 ⟨o, H4, I4, ps, eo, e4⟩ => ?_
  subst eo e4
  have I5 : Inv X pins σ H4 { s4 with heap := s4.heap.push { cls := .type "slice", data := .fields #[vl, vu, vs] } } := I4.kept (t' := s4.toks) fun b ob q => Heap.get?_push_of_some _ q
  obtain ⟨its, r, ht, hz⟩ := I5.tuple hx
  have hlen := r.length
  show wpAny (model X.prog X.w) X.A (subscriptTail e (.Slice none none (some (.UnaryOp .USub (.Constant (.int 1) k p1) p2)) p3) (.ref a) (.ref s4.heap.objs.size)) (EP X pins σ Q) X.xe { s4 with heap := s4.heap.push { cls := .type "slice", data := .fields #[vl, vu, vs] } }
  refine tail_any (ops := [.ref a, .ref s4.heap.objs.size]) ht.typeIs (PyProof.Rows.slot_tuple_getitem.lookup) ?_ (by with_unfolding_all rfl)
  refine getItem_tuple_rev ht (Heap.IsSliceOf.new _ vl vu vs) pl pu ps ?_ (by rw [List.size_toArray]; omega)
  exact Inv.layT I5 (by rw [List.length_reverse]; exact hz) r.reverse q
theorem drev {k : Nat} {p1 p2 p3 : Pos} (he : PE X e (lft X.K Z fa)) : PE X (.Subscript e (.Slice none none (some (.UnaryOp .USub (.Constant (.int 1) k p1) p2)) p3) pos) (lft X.K Z (dUn gRev fa)) := PEimp (pe_revT he) fun σ H Q h => by
  obtain ⟨M, s, d, s', rl, hf, k⟩ := h
  obtain ⟨d1, h1, h3⟩ := dUn_some hf
  unfold gRev at h3
  split at h3
  · cases h3
    refine ⟨M, s, _, s', rl, h1, fun v H1 k1 r1 t1 => ?_⟩
    obtain ⟨a, xs, rfl, g1, u1⟩ := t1.tuple
    exact ⟨a, xs, rfl, g1, fun p o hp ho => k _ _ (k1.trans (kq_grow (grow_new hp))) (r1.grow (grow_new hp)) (dt_newT ho r1.muT hp u1.rev)⟩
  · cases h3
end
end Dl

namespace Dl
open PySem PySem.Spec PyProof.Rows L2

/-! ### walked: a list, a tuple, a text's signs -/
def itA (f : DE) : DF := fun s => (f s).bind fun p => match p.1 with
  | .list ds => some (ds, p.2)
  | .tuple ds => some (ds, p.2)
  | .str x => some (signs x, p.2)
  | _ => none
def gNeg : PyData → Option PyData
  | .int i => some (.int (-i))
  | _ => none
/-- a constant of the module -/
def GC (K : PySem.W.Frag) (mg : Str → Option Value) (x : Str) (d : PyData) : Prop := ∃ u v, mg x = some u ∧ RelV v u ∧ ∀ mu H, Dt K mu H v d
/-- x op= e -/
def sAug (g : PyData → PyData → Option PyData) (i : Nat) (f : DE) : DS := fun s => (dVar i s).bind fun q => (f s).bind fun p => (g q.1 p.1).map fun d => .nx (p.2.set i (.dat d))
def gAddS : PyData → PyData → Option PyData
  | .int a, .int b => some (.int (a + b))
  | .str a, .str b => if a.length + b.length ≤ sizeLine then some (.str (a ++ b)) else none
  | _, _ => none
section
variable {X : Cx} {Z : Par} {tg a b e : Expr} {es : List Expr} {pos : Pos} {fa fb fc : DE} {ff : DF} {ga : DA} {st : Stmt} {sts : List Stmt} {f g : DS} {t : DT}
theorem pia (h : PE X e (lft X.K Z fa)) : PI X tg e (lfI X.K Z (itA fa)) := ⟨fun pins s0 σ H R I hq => by
  obtain ⟨M, s, ds, s', rl, hf, k⟩ := hq
  unfold itA at hf
  simp only [Option.bind_eq_some_iff] at hf
  obtain ⟨⟨d1, s1⟩, h1, h2⟩ := hf
  dsimp only at h2
  split at h2
  · cases h2
    exact (pil h).run pins s0 σ H R I ⟨M, s, _, _, rl, (by unfold itL; rw [h1]; rfl), k⟩
  · cases h2
    exact (pit h).run pins s0 σ H R I ⟨M, s, _, _, rl, (by unfold itT; rw [h1]; rfl), k⟩
  · cases h2
    exact (pis h).run pins s0 σ H R I ⟨M, s, _, _, rl, (by unfold itS; rw [h1]; rfl), k⟩
  · cases h2⟩
theorem ok_neg {K : PySem.W.Frag} : UnOk K (rU fun i => .int (-i)) gNeg := fun mu H x d1 d Q hm t1 e k => by
  unfold gNeg at e
  split at e
  · cases e
    exact ⟨_, t1.inti, k _ H (fun _ _ z => z) (.int _)⟩
  · cases e
theorem dgc {x : Str} {d : PyData} (hg : Gl X x) (c : GC X.K X.mg x d) (hd : (x == ("__debug__" : Str)) = false := by decide) : PE X (.Name x pos) (lft X.K Z (dC d)) := by
  obtain ⟨u, v, h1, h2, h3⟩ := c
  exact dg hg h1 h2 h3 hd
theorem ssetLc {i : Nat} {y x : Str} {py px : Pos} {elt iter : Expr} {ifs : List Expr} {scope : Scope} {j : Nat} {spos : Pos} (hc : X.calm = true) (hN : X.N.Nodup) (hy : X.N[i]? = some y) (hyl : X.env.scope.names.lookup y = some .local)
    (hsw : swapsWith (.ListComp elt [⟨.Name x px, iter, ifs, 0⟩] scope pos) (some (.Name y py)) spos.line X.env = pure true) (hi : PI X (.Name x px) iter (lfI X.K Z ff)) (ok : BlkOk X.N X.env.scope scope [(x, j)])
    (hg : ∀ (s : Shared) (H : Hp) (C : Addr) (cl : List (Str × Addr)) (fp : List Addr), PG (X.blk s H scope (compEnvC scope cl C X.env) fp) (.Name x px) (gName j))
    (ht : ∀ (s : Shared) (H : Hp) (C : Addr) (cl : List (Str × Addr)) (fp : List Addr) (Z : Par), PTs (X.blk s H scope (compEnvC scope cl C X.env) fp) ifs (lfT X.K Z t))
    (he : ∀ (s : Shared) (H : Hp) (C : Addr) (cl : List (Str × Addr)) (fp : List Addr) (Z : Par), PE (X.blk s H scope (compEnvC scope cl C X.env) fp) elt (lft X.K Z fa)) (hs : ∀ x, foldedSetIterable iter X.env x = pure x := by intro _; rfl) :
    PS X (.Assign [.Name y py] (.ListComp elt [⟨.Name x px, iter, ifs, 0⟩] scope pos) spos) (lfS X.K Z (sSet i (dL (fLc ff j t fa)))) :=
  PSimp (ps_setLc hc hN hy hyl hsw hi ok hg (tt := fun σ H Q => ∃ Z, lfT X.K Z t σ H Q) (te := fun σ H Q => ∃ Z, lft X.K Z fa σ H Q)
    (fun s H0 C cl fp => ⟨fun pins s' σ H Q I ⟨Z, q⟩ => (ht s H0 C cl fp Z).run pins s' σ H Q I q⟩) (fun s H0 C cl fp => ⟨fun pins s' σ H Q I ⟨Z, q⟩ => (he s H0 C cl fp Z).run pins s' σ H Q I q⟩) hs) fun D σ H h => by
  obtain ⟨M, s, fl, rl, h1, k⟩ := h
  unfold sSet dL at h1
  simp only [Option.map_eq_some_iff] at h1
  obtain ⟨⟨d, s1⟩, ⟨⟨ds, s2⟩, h1, h3⟩, h2⟩ := h1
  cases h3
  cases h2
  refine lift_lc (Z := Z) (t := t) (fa := fa) (ff := ff) (K := X.K) (j := j) (σ := σ) (H := H) (Q := fun x H1 => gName i x σ H1 D.nx) (fun _ _ _ _ q => ⟨_, q⟩) (fun _ _ _ _ q => ⟨_, q⟩) ⟨M, s, ds, _, rl, h1, fun p xs H' hp hx k1 r1 t1 => ?_⟩
  have td : Dt X.K (Mu Z M) H' (.ref p) (.list ds) := .lst (.inl hx) (fun q => by
    obtain ⟨o, e⟩ := rl.muT p q
    rw [hp] at e; cases e) (t1.mono kp_drop)
  obtain ⟨M', _, r2, k2⟩ := r1.unadd.setDat td i
  exact k M' _ H' (k1.trans k2) r2
theorem saug {i : Nat} {x : Str} {pos' : Pos} {op : Operator} {ti : TIp} {g : PyData → PyData → Option PyData} (hN : X.N.Nodup) (hi : X.N[i]? = some x) (hx : Loc X.env.scope x) (he : PE X e (lft X.K Z fa)) (ho : PIp X op ti) (ok : OpOk X.K ti g)
    (hf : X.fn x = true ∨ X.env.scope.names.lookup x = some .local := by first | exact .inl rfl | exact .inr rfl | assumption) : PS X (.AugAssign (.Name x pos') op e pos) (lfS X.K Z (sAug g i fa)) := PSimp (ps_aug hN hi hx he ho hf) fun D σ H h => by
  obtain ⟨M, s, fl, rl, h1, k⟩ := h
  unfold sAug at h1
  simp only [Option.bind_eq_some_iff, Option.map_eq_some_iff] at h1
  obtain ⟨⟨d0, s0⟩, h0, ⟨d1, s1⟩, h1, d2, h2, h3⟩ := h1
  cases h3
  obtain ⟨e0, _⟩ := dVar_some h0
  obtain ⟨v, g1, g2⟩ := rl.sl.get e0
  refine ⟨v, g1, M, s, d1, s1, rl, h1, fun w H1 k1 r1 t1 => ?_⟩
  refine ok (Mu Z M) H1 v w _ d1 d2 _ r1.muT (g2.mono k1.kp) t1 h2 fun z H2 gr t2 => ?_
  obtain ⟨M', _, r2, k2⟩ := (r1.grow gr).setDat t2 i
  exact k M' _ H2 (k1.trans ((kq_grow gr).trans k2)) r2
end

/-! ### a def that makes a list which nobody else has -/
def lfR (K : PySem.W.Frag) (Z : Par) (g : DF) : TS := fun D σ H => ∃ M s ds s', Rel K Z M σ H s ∧ g s = some (ds, s') ∧ ∀ M' σ' p xs H', Z.H0 p = none → H' p = some (.lst xs) → Rel K (Z.add p) M' σ' H' s' → DtAll K (Mu (Z.add p) M') H' xs ds → D.rt (.ref p) H'
def rSeq (f : DS) (g : DF) : DF := fun s => (f s).bind fun fl => match fl with
  | .nx s' => g s'
  | _ => none
section
variable {X : Cx} {Z : Par} {tg a b e : Expr} {es : List Expr} {pos : Pos} {fa fb fc : DE} {ff : DF} {ga : DA} {st : Stmt} {sts : List Stmt} {f : DS} {t : DT}
theorem rret (he : PE X e (lfF X.K Z ff)) : PS X (.Return (some e) pos) (lfR X.K Z ff) := PSimp (ps_ret he) fun D σ H h => by
  obtain ⟨M, s, ds, s', rl, hf, k⟩ := h
  refine ⟨M, s, ds, s', rl, hf, fun p xs H' hp hx k1 r1 t1 => k M σ p xs H' ?_ hx r1 t1⟩
  cases q : Z.H0 p with
  | none => rfl
  | some o =>
    have npp : p ∉ Z.p := fun z => by
      obtain ⟨u, e⟩ := rl.pt p z
      rw [hp] at e; cases e
    have := rl.base p o q npp
    rw [hp] at this; cases this
theorem rone (h : PS X st (lfR X.K Z ff)) : PSs X [st] (lfR X.K Z ff) := pss_one h
theorem rcons (h1 : PS X st (lfS X.K Z f)) (h2 : PSs X sts (lfR X.K Z ff)) : PSs X (st :: sts) (lfR X.K Z (rSeq f ff)) := PSsimp (pss_cons h1 h2) fun D σ H h => by
  obtain ⟨M, s, ds, s', rl, hf, k⟩ := h
  unfold rSeq at hf
  simp only [Option.bind_eq_some_iff] at hf
  obtain ⟨fl, h1, h2⟩ := hf
  cases fl with
  | nx s1 => exact ⟨M, s, .nx s1, rl, h1, fun M1 σ1 H1 k1 r1 => ⟨M1, s1, ds, s', r1, h2, fun M' σ' p xs H' hp hx r2 t2 => k M' σ' p xs H' hp hx r2 t2⟩⟩
  | _ => cases h2
end
def fnF (N : List Str) (n : Nat) (g : DF) : List PyData → Option (List PyData) := fun ds => if ds.length = n then (g (startS N ds)).map (·.1) else none
theorem okF {P : Program} {w : World} {K : PySem.W.Frag} {mg : Str → Option Value} {base : Heap} {x qual : Str} {st : Stmt} {f : Addr} {fd : FuncData} {N ps : List Str} {k : Nat} {g : DF} (F : Fun K x qual st f fd) (S : FnScope N ps (defScope st))
    (hb : ∀ (cdv : Value) (A : Around) (outer : List Env) (s : Shared) (H : Hp) (E : XK) (Z : Par), Room k (A.deeper (envOfC qual (defScope st) s.heap.objs.size f cdv)) → PSs (cxOf CX0 P w K mg base N qual (defScope st) f cdv A outer s H E).nox (defBody st) (lfR K Z g)) :
    FnOk P w K mg base CX0 (k + 1) f fd ps (spF K (fnF N ps.length g)) := by
  refine F.ok S (fun vs H Q E h => ?_) (fun cdv A outer s H vs Q E hr h => ?_)
  · obtain ⟨mu, ds, es, h1, h2, h3, h4⟩ := h
    unfold fnF at h3
    split at h3
    · rename_i hl
      rw [h2.len]; exact hl
    · cases h3
  · obtain ⟨mu, ds, es, h1, h2, h3, h4⟩ := h
    unfold fnF at h3
    split at h3
    case isFalse => cases h3
    simp only [Option.map_eq_some_iff] at h3
    obtain ⟨⟨es', s'⟩, hq, h5⟩ := h3
    cases h5
    let Z : Par := ⟨H, [], mu, .nil⟩
    refine ⟨_, hb cdv A outer s H E Z hr, [], startS N ds, _, s', ?_, hq, fun M' σ' p xs H' hp hx r t => ?_⟩
    · have muE : ∀ a, Mu Z [] a → mu a := fun a q => by
        rcases q with q | q | q
        · exact q
        · cases q
        · cases q
      refine ⟨fun a o e _ => e, fun a ha => (by cases ha), h1, fun a ha => (by cases ha), ?_⟩
      unfold startS L2.start
      rw [h2.len]
      exact slAll_start _ (h2.mono fun a o e n => ⟨e, fun z => n (muE a z)⟩)
    · refine h4 p xs H' hp (fun a o e => r.base a o e (fun z => by cases z)) hx (t.mono fun a o e n => ⟨e, fun z => n ?_⟩)
      rcases z with z | z
      · exact .inl (.inl z)
      · exact .inl (.inr z)

/-! ### a def as it is called -/
def Cal (P : Program) (w : World) (K : PySem.W.Frag) (mg : Str → Option Value) (base : Heap) (k : Nat) (x : Str) (ps : List Str) (sp : Sp) : Prop := ∃ (f : Addr) (fd : FuncData), FnOk P w K mg base CX0 k f fd ps sp ∧ mg x = some (.ref f) ∧ PySem.W.keepIn K (.ref f) = true ∧ Binds K fd ps []
/-- where a def of the text stands -/
def Std (K : PySem.W.Frag) (mg : Str → Option Value) (x : Str) (st : Stmt) (ps : List Str) : Prop := ∃ (f : Addr) (fd : FuncData), Fun K x x st f fd ∧ mg x = some (.ref f) ∧ Binds K fd ps []
section
variable {P : Program} {w : World} {K : PySem.W.Frag} {mg : Str → Option Value} {base : Heap}
theorem calP {x : Str} {st : Stmt} {N ps : List Str} {k : Nat} {b : DS} (F : Std K mg x st ps) (S : FnScope N ps (defScope st))
    (hb : ∀ (f : Addr) (cdv : Value) (A : Around) (outer : List Env) (s : Shared) (H : Hp) (E : XK) (Z : Par), Room k (A.deeper (envOfC x (defScope st) s.heap.objs.size f cdv)) → PSs (cxOf CX0 P w K mg base N x (defScope st) f cdv A outer s H E).nox (defBody st) (lfS K Z b)) :
    Cal P w K mg base (k + 1) x ps (spP K (fnP N ps.length b)) := by
  obtain ⟨f, fd, F, hm, hb2⟩ := F
  exact ⟨f, fd, okP F S (fun cdv A outer s H E Z hr => hb f cdv A outer s H E Z hr), hm, F.kp, hb2⟩
theorem calM {x : Str} {st : Stmt} {N ps : List Str} {k : Nat} {b : DS} (F : Std K mg x st ps) (S : FnScope N ps (defScope st))
    (hb : ∀ (f : Addr) (cdv : Value) (A : Around) (outer : List Env) (s : Shared) (H : Hp) (E : XK) (Z : Par), Room k (A.deeper (envOfC x (defScope st) s.heap.objs.size f cdv)) → PSs (cxOf CX0 P w K mg base N x (defScope st) f cdv A outer s H E).nox (defBody st) (lfS K Z b)) :
    Cal P w K mg base (k + 1) x ps (spM K (fnM N ps.length b)) := by
  obtain ⟨f, fd, F, hm, hb2⟩ := F
  exact ⟨f, fd, okM F S (fun cdv A outer s H E Z hr => hb f cdv A outer s H E Z hr), hm, F.kp, hb2⟩
theorem calF {x : Str} {st : Stmt} {N ps : List Str} {k : Nat} {g : DF} (F : Std K mg x st ps) (S : FnScope N ps (defScope st))
    (hb : ∀ (f : Addr) (cdv : Value) (A : Around) (outer : List Env) (s : Shared) (H : Hp) (E : XK) (Z : Par), Room k (A.deeper (envOfC x (defScope st) s.heap.objs.size f cdv)) → PSs (cxOf CX0 P w K mg base N x (defScope st) f cdv A outer s H E).nox (defBody st) (lfR K Z g)) :
    Cal P w K mg base (k + 1) x ps (spF K (fnF N ps.length g)) := by
  obtain ⟨f, fd, F, hm, hb2⟩ := F
  exact ⟨f, fd, okF F S (fun cdv A outer s H E Z hr => hb f cdv A outer s H E Z hr), hm, F.kp, hb2⟩
theorem Std.noneM {x : Str} {st : Stmt} {ps : List Str} (c : Std K mg x st ps) (k : Nat) : Cal P w K mg base k x ps (spM K fun _ _ => none) := by
  obtain ⟨f, fd, F, hm, hb⟩ := c
  refine ⟨f, fd, ⟨fun vs H Q E h => ?_, fun A outer s H args us vs Q E hr e hb hv h => ?_⟩, hm, F.kp, hb⟩
  · obtain ⟨_, _, _, _, _, _, _, _, _, _, _, _, _, _, h, _⟩ := h
    cases h
  · obtain ⟨_, _, _, _, _, _, _, _, _, _, _, _, _, _, h, _⟩ := h
    cases h
theorem Std.noneP {x : Str} {st : Stmt} {ps : List Str} (c : Std K mg x st ps) (k : Nat) : Cal P w K mg base k x ps (spP K fun _ => none) := by
  obtain ⟨f, fd, F, hm, hb⟩ := c
  refine ⟨f, fd, ⟨fun vs H Q E h => ?_, fun A outer s H args us vs Q E hr e hb hv h => ?_⟩, hm, F.kp, hb⟩
  · obtain ⟨_, _, _, _, _, h, _⟩ := h
    cases h
  · obtain ⟨_, _, _, _, _, h, _⟩ := h
    cases h
theorem Cal.impP {x : Str} {ps : List Str} {k : Nat} {m m' : List PyData → Option PyData} (c : Cal P w K mg base k x ps (spP K m)) (h : ∀ ds d, m' ds = some d → m ds = some d) : Cal P w K mg base k x ps (spP K m') := by
  obtain ⟨f, fd, F, r⟩ := c
  refine ⟨f, fd, F.imp fun vs H Q E q => ?_, r⟩
  obtain ⟨mu, ds, d, h1, h2, h3, h4⟩ := q
  exact ⟨mu, ds, d, h1, h2, h ds d h3, h4⟩
theorem Cal.impM {x : Str} {ps : List Str} {k : Nat} {m m' : List PyData → List PyData → Option (PyData × List PyData)} (c : Cal P w K mg base k x ps (spM K m)) (h : ∀ pd ds d, m' pd ds = some d → m pd ds = some d) : Cal P w K mg base k x ps (spM K m') := by
  obtain ⟨f, fd, F, r⟩ := c
  refine ⟨f, fd, F.imp fun vs H Q E q => ?_, r⟩
  obtain ⟨mu, p, xs, pd, rest, ds, d, pd', h1, h2, h3, h4, h5, h6, h7, h8⟩ := q
  exact ⟨mu, p, xs, pd, rest, ds, d, pd', h1, h2, h3, h4, h5, h6, h _ _ _ h7, h8⟩
theorem Cal.mono {x : Str} {ps : List Str} {j k : Nat} {sp : Sp} (c : Cal P w K mg base j x ps sp) (h : j ≤ k) : Cal P w K mg base k x ps sp := by
  obtain ⟨f, fd, F, r⟩ := c
  exact ⟨f, fd, F.mono h, r⟩
end
section
variable {X : Cx} {Z : Par} {a b e : Expr} {es : List Expr} {pos : Pos} {fa fb fc : DE} {ff : DF} {ga : DA} {k j : Nat} {ps : List Str} {x : Str} {p : Pos}
theorem dcl {m : List PyData → Option PyData} (c : Cal X.prog X.w X.K X.mg X.base j x ps (spP X.K m)) (hr : Room k X.A) (hj : j ≤ k) (hg : Gl X x) (ha : PA X (e :: es) (lfA X.K Z ga)) (hx : Passes CX0 X E0 := by exact pass0)
    (hdb : (x == ("__debug__" : Str)) = false := by decide) (he : starEach (e :: es) X.env = (false, eval e X.env) :: starEach es X.env := by rfl) (hpl : (backTo pos (starEach es X.env)).any (·.1) = false := by rfl) :
    PE X (.Call (.Name x p) (e :: es) [] pos) (lft X.K Z (dCall m ga)) := by
  obtain ⟨f, fd, F, hm, hk, hb⟩ := c
  exact dcall F (hr.mono hj) hg hm hk hb ha hx hdb he hpl
theorem dcl0 {m : List PyData → Option PyData} (c : Cal X.prog X.w X.K X.mg X.base j x ps (spP X.K m)) (hr : Room k X.A) (hj : j ≤ k) (hg : Gl X x) (hx : Passes CX0 X E0 := by exact pass0)
    (hdb : (x == ("__debug__" : Str)) = false := by decide) : PE X (.Call (.Name x p) [] [] pos) (lft X.K Z (dCall m aNil)) := by
  obtain ⟨f, fd, F, hm, hk, hb⟩ := c
  exact dcall0 F (hr.mono hj) hg hm hk hb hx hdb
theorem dclM {m : List PyData → List PyData → Option (PyData × List PyData)} (i : Nat) (c : Cal X.prog X.w X.K X.mg X.base j x ps (spM X.K m)) (hr : Room k X.A) (hj : j ≤ k) (hg : Gl X x) (h1 : PE X e (tVar i)) (ha : PA X es (lfA X.K Z ga)) (hx : Passes CX0 X E0 := by exact pass0)
    (hdb : (x == ("__debug__" : Str)) = false := by decide) (he : starEach (e :: es) X.env = (false, eval e X.env) :: starEach es X.env := by rfl) (hpl : (backTo pos (starEach es X.env)).any (·.1) = false := by rfl) :
    PE X (.Call (.Name x p) (e :: es) [] pos) (lft X.K Z (dCallM m i ga)) := by
  obtain ⟨f, fd, F, hm, hk, hb⟩ := c
  exact dcallM i F (hr.mono hj) hg hm hk hb h1 ha hx hdb he hpl
theorem fcl {m : List PyData → Option (List PyData)} (c : Cal X.prog X.w X.K X.mg X.base j x ps (spF X.K m)) (hr : Room k X.A) (hj : j ≤ k) (hg : Gl X x) (ha : PA X (e :: es) (lfA X.K Z ga)) (hx : Passes CX0 X E0 := by exact pass0)
    (hdb : (x == ("__debug__" : Str)) = false := by decide) (he : starEach (e :: es) X.env = (false, eval e X.env) :: starEach es X.env := by rfl) (hpl : (backTo pos (starEach es X.env)).any (·.1) = false := by rfl) :
    PE X (.Call (.Name x p) (e :: es) [] pos) (lfF X.K Z (fCall m ga)) := by
  obtain ⟨f, fd, F, hm, hk, hb⟩ := c
  exact fcall F (hr.mono hj) hg hm hk hb ha hx hdb he hpl
end
end Dl

/-! ### len(set(..)) of texts -/
namespace Dl
open PySem PySem.Spec PyProof.Rows L2
/-- how many unlike ones -/
def unlike : List Str → List Str → Nat
  | _, [] => 0
  | seen, z :: r => if z ∈ seen then unlike seen r else unlike (z :: seen) r + 1
/-- .. among the first i -/
def unl (zs : List Str) : Nat → Nat
  | 0 => 0
  | i + 1 => match zs[i]? with
    | some z => if z ∈ zs.take i then unl zs i else unl zs i + 1
    | none => unl zs i
theorem unl_le (zs : List Str) : ∀ i, unl zs i ≤ i
  | 0 => Nat.le_refl _
  | i + 1 => by
    have h := unl_le zs i
    unfold unl
    split
    · split <;> omega
    · omega
theorem setOf_as {P : Program} {w : World} {h : Heap} {a : Addr} {S S' : Str → Bool} {n n' : Nat} (R : h.SetOf (PySem.strKind P w) a S n) (e : ∀ k, S k = S' k) (en : n = n') : h.SetOf (PySem.strKind P w) a S' n' := by
  have e' : S = S' := funext e
  subst e' en
  exact R
theorem setOf_moved {P : Program} {w : World} {h h' : Heap} {a : Addr} {S : Str → Bool} {n : Nat} (R : h.SetOf (PySem.strKind P w) a S n) (k : ∀ o, h.get? a = some o → h'.get? a = some o) : h'.SetOf (PySem.strKind P w) a S n := by
  obtain ⟨o, es, ep, t, ho, r⟩ := R
  exact ⟨o, es, ep, t, k o ho, r⟩
section
variable {P : Program} {w : World} {A : Around} {E : Value → Shared → Prop} {s : Shared}
theorem set_fill {I : Addr} {fp wr : List Addr} {G : Array GenState → Array GenState → Prop} {n : Nat} {Pv : Nat → Value → Prop} {St : Nat → Shared → Prop} {R : Result → Shared → Prop}
    (W : WalksS P w A.in1 I fp wr G n Pv St) (a : Addr) (out : a ∉ fp) (zs : List Str) (hn : n = zs.length) (few : zs.length + 1 < scanBound) (vals : ∀ i v, Pv i v → ∃ z t, zs[i]? = some z ∧ v = .str z t) (left : Nat) :
    ∀ (i : Nat) (s : Shared), n - i = left → i ≤ n → St i s → s.heap.SetOf (PySem.strKind P w) a (fun k => decide (k ∈ zs.take i)) (unl zs i) →
      (∀ s', Moved (a :: wr) G s s' → s'.heap.SetOf (PySem.strKind P w) a (fun k => decide (k ∈ zs)) (unl zs n) → R (.ok (.ret .none)) s') → codeAny (model P w) A (.builtin "set.update.loop" ⟨[.ref a, .ref I], []⟩) R s := by
  have outw : a ∉ wr := fun h => out (W.sub _ h)
  have more : ∀ b ∈ wr, b ∈ a :: wr := fun b hb => List.mem_cons_of_mem _ hb
  induction left with
  | zero =>
    intro i s hl hi hst hS hR
    obtain rfl : i = n := by omega
    refine codeAny_builtin F.entry_set_update_loop ?_
    rw [Around.under_plainId F.plain_set_update_loop _]
    show wpAny _ A.in1 (pyNext (.ref I) >>= _) _ _ s
    refine wpAny_bind (W.done s _ _ hst fun s' mv => ?_)
    show wpAny _ A.in1 (ret Value.none) _ _ s'
    rw [List.take_of_length_le (show zs.length ≤ i by omega)] at hS
    exact wpAny_pure (hR s' (mv.mono more) (setOf_moved hS fun o e => mv.heap a o outw e))
  | succ left ih =>
    intro i s hl hi hst hS hR
    have lt : i < n := by omega
    refine codeAny_builtin F.entry_set_update_loop ?_
    rw [Around.under_plainId F.plain_set_update_loop _]
    show wpAny _ A.in1 (pyNext (.ref I) >>= _) _ _ s
    refine wpAny_bind (W.item i s _ _ lt hst fun v s' hP hst' mv => ?_)
    obtain ⟨z, t, hz, rfl⟩ := vals i v hP
    have hS' := setOf_moved hS (h' := s'.heap) fun o e => mv.heap a o outw e
    show wpAny _ A.in1 (holding [Value.str z t] (setAdd a (.str z t)) >>= _) _ _ s'
    refine wpAny_bind (wpAny_holding ?_)
    unfold setAdd
    refine wpAny_holding (wpAny_bind ((PySem.strKind P w).pyHash (k := z) (strKind_is _ _ _ _) ?_))
    have small : unl zs i + 1 < scanBound := by have := unl_le zs i; omega
    refine wpAny_setAddHashed_of (knd := PySem.strKind P w) (s := { s' with toks := s'.toks + 1 }) (strKind_is _ _ _ _) rfl hS' small fun h' same hS2 => ?_
    have hS3 : h'.SetOf (PySem.strKind P w) a (fun k => decide (k ∈ zs.take (i + 1))) (unl zs (i + 1)) := by
      refine setOf_as hS2 (fun k => ?_) ?_
      · rw [List.take_add_one, hz]
        simp [List.mem_append]
      · show (if decide (z ∈ zs.take i) = true then unl zs i else unl zs i + 1) = unl zs (i + 1)
        rw [unl, hz]
        simp only [decide_eq_true_eq]
    refine wpAny_pure ⟨plainId_quiet F.plain_set_update_loop _, ih (i + 1) _ (by omega) lt (W.frame _ s' _ _ hst' (Nat.le_succ _) fun b hb o e => ?_) hS3 fun s'' mv2 hS4 => ?_⟩
    · have nb : b ≠ a := fun h => out (h ▸ hb)
      rw [same.2 b nb]; exact e
    · refine hR s'' (Moved.trans W.gtrans ((mv.mono more).then_heap (Nat.le_succ _) fun b o hb e => ?_) mv2) hS4
      have nb : b ≠ a := fun h => hb (h ▸ List.mem_cons_self)
      rw [same.2 b nb]; exact e
/-- the set ahead of its items -/
def emptySet (w : World) : Obj := { cls := .type "set", dict := none, data := .set #[] 0 (.fresh 0 0 (!w.params.followText "set-order")) }
theorem strs_item {us : List Value} {zs : List Str} (h : StrsAre us zs) : ∀ {i : Nat} {v : Value}, us[i]? = some v → ∃ z t, zs[i]? = some z ∧ v = .str z t := by
  induction h with
  | nil => intro i v e; simp at e
  | cons z t r ih =>
    intro i v e
    cases i with
    | zero => simp at e; exact ⟨z, t, rfl, e.symm⟩
    | succ i => simpa using ih (by simpa using e)
theorem new_setOf {h : Heap} {a : Addr} {zs : List Str} (e : h.get? a = some (emptySet w)) : h.SetOf (PySem.strKind P w) a (fun k => decide (k ∈ zs.take 0)) (unl zs 0) :=
  ⟨_, #[], 0, _, e, ⟨rfl, rfl, rfl⟩, rfl, (fun e he => by simp at he), (fun k => by simp), (by decide), (by rfl), rfl⟩
set_option maxHeartbeats 8000000 in
theorem call_set_texts {l : Addr} {items : Array Value} (zs : List Str) {Q : Value → Shared → Prop} (cold : A.handled = none) (hl : s.heap.IsTuple l items) (hit : StrsAre items.toList zs) (few : zs.length + 1 < scanBound)
    (h : ∀ (h' : Heap) (tk : Nat), h'.SetOf (PySem.strKind P w) s.heap.objs.size (fun k => decide (k ∈ zs)) (unl zs zs.length) → (∀ b o, s.heap.get? b = some o → h'.get? b = some o) → Q (.ref s.heap.objs.size) { s with heap := h', toks := tk }) :
    wpAny (model P w) A (call (.type "set") [.ref l]) Q E s := by
  have size : items.size = zs.length := by
    have q := StrsAre.length hit
    rw [Array.length_toList] at q
    exact q
  obtain ⟨c, tl, hmro⟩ := F.called_set.mro
  have hmade := F.called_set.made
  have hsub := F.called_set.sub
  refine wpAny_call (codeAny_of_tree ?_)
  show wpAny _ _ (callAny (.type "set") _) _ _ _
  refine wpAny_pure ⟨Code.quiet_builtin _ (by decide +kernel), codeAny_builtin F.entry_type_call ?_⟩
  rw [Around.under_plain (weight_type_call_type "set" [.ref l] []) rfl]
  have h1 := F.called_set.notType
  have h2 := F.called_set.canCreate
  have hct := F.typeCall_set_1 (.ref l)
  repeat (any_goals (first | assumption | wp_step))
  refine codeAny_mono (code_set_led1 (.ref l) (E := E) (Q₁ := fun obj s₁ => obj = .ref s.heap.objs.size ∧ s₁ = { s with heap := s.heap.push (emptySet w) }) ⟨rfl, rfl⟩) fun r s₁ hr => ?_
  cases r with
  | error e => exact hr
  | ok fl =>
    cases fl with
    | ret obj =>
      obtain ⟨rfl, rfl⟩ := hr
      have hS : (s.heap.push (emptySet w)).get? s.heap.objs.size = some (emptySet w) := Heap.get?_push_size _ rfl
      have hT : Shared.TypeIs { s with heap := s.heap.push (emptySet w) } (.ref s.heap.objs.size) "set" := ⟨_, hS, rfl⟩
      have hli := F.called_set.init.lookup
      have hbi := F.called_set.init.bind (.ref s.heap.objs.size)
      repeat (any_goals (first | assumption | wp_step))
      refine codeAny_mono (codeAny_call_builtin (R := wants (fun r s₂ => r = .none ∧ ∃ h' tk, s₂ = { s with heap := h', toks := tk } ∧ h'.SetOf (PySem.strKind P w) s.heap.objs.size (fun k => decide (k ∈ zs)) (unl zs zs.length) ∧
          (∀ b o, s.heap.get? b = some o → h'.get? b = some o)) E) F.called_set.init.plain F.entry_set_init (check_set_init_1 hT ?_)) fun r₂ s₂ hr₂ => ?_
      · obtain ⟨⟨ocls, odict, odata, oslots⟩, hol, hcl, nl, hdl⟩ := hl
        simp only at hcl hdl
        subst hcl hdl
        have hol' : (s.heap.push (emptySet w)).get? l = some { cls := .type "tuple", dict := odict, data := .seq items nl, slots := oslots } := Heap.get?_push_of_some _ hol
        have hsls := F.sub_tuple_set
        have hslf := F.sub_tuple_frozenset
        have hne : (Value.type "tuple" == Value.type "dict") = false := by decide
        have hl1 : (s.heap.push (emptySet w)).IsTuple l items := ⟨_, hol', rfl, nl, rfl⟩
        unfold Builtin.«set.__init__» noKeywords Builtin.Frozenset.updateFrom
        generalize hPI : pyIter = PI
        wp_walk
        subst hPI
        refine wpAny_pyIter_tuple hl1 ?_
        refine wpAny_bind (wpAny_runValue ?_)
        have lS : l < s.heap.objs.size := Heap.lt_size hol
        have cold3 : A.in1.in1.in1.handled = none := by simp [cold]
        have apart : l ≠ (s.heap.push (emptySet w)).objs.size := by
          rw [Heap.size_push]; exact Nat.ne_of_lt (Nat.lt_succ_of_lt lS)
        have out : s.heap.objs.size ∉ [(s.heap.push (emptySet w)).objs.size, l] := by
          rw [Heap.size_push]; simp only [List.mem_cons, List.mem_singleton, List.not_mem_nil, or_false, not_or]
          exact ⟨Nat.ne_of_lt (Nat.lt_succ_self _), Nat.ne_of_gt lS⟩
        have vals : ∀ (i : Nat) (v : Value), items[i]? = some v → ∃ z t, zs[i]? = some z ∧ v = .str z t := fun i v hv => strs_item hit (by rw [Array.getElem?_toList]; exact hv)
        refine set_fill ((Walks.tuple cold3 _ l apart items).toS) s.heap.objs.size out zs size few vals (items.size - 0) 0 _ (by omega) (Nat.zero_le _) ⟨⟨_, Heap.get?_push_size _ rfl, rfl, rfl⟩, (hl1.push _)⟩ ?hS0 ?hR
        case hS0 => exact new_setOf (Heap.get?_push_of_some _ hS)
        case hR =>
          intro s' mv hS'
          obtain ⟨h', g2, d', tk', os'⟩ := s'
          have eg : g2 = s.gens := mv.gens
          have ed : d' = s.drawn := mv.drawn
          have eo : os' = s.os := mv.os
          subst eg; subst ed; subst eo
          show wpAny _ _ _ _ _ _
          refine wpAny_pure ?_
          show wpAny _ _ (ret Value.none) _ _ _
          rw [size] at hS'
          refine wpAny_pure ⟨rfl, h', tk', rfl, hS', fun b o e => ?_⟩
          have b0 : b < s.heap.objs.size := Heap.lt_size e
          have b1 : b ≠ s.heap.objs.size := Nat.ne_of_lt b0
          have b2 : b ≠ (s.heap.push (emptySet w)).objs.size := by
            rw [Heap.size_push]; exact Nat.ne_of_lt (Nat.lt_succ_of_lt b0)
          exact mv.heap b o (by simp only [List.mem_cons, List.mem_singleton, List.not_mem_nil, or_false, not_or]; exact ⟨b1, b2⟩) (Heap.get?_push_of_some _ (Heap.get?_push_of_some _ e))
      · cases r₂ with
        | error e => exact hr₂
        | ok fl₂ =>
          cases fl₂ with
          | ret r =>
            obtain ⟨rfl, h', tk, rfl, hS', hk'⟩ := hr₂
            repeat (any_goals (first | assumption | wp_step))
            exact h _ _ hS' hk'
          | _ => exact hr₂.elim
    | _ => exact hr.elim
end
/-- len(set(xs)) of texts -/
def strsS : List PyData → Option (List Str)
  | [] => some []
  | .str z :: r => (strsS r).map (z :: ·)
  | _ => none
def gLenSet : PyData → Option PyData
  | .tuple ds => (strsS ds).bind fun zs => if zs.length + 1 < scanBound then some (.int (unl zs zs.length)) else none
  | _ => none
section
variable {X : Cx} {Z : Par} {fa : DE}
theorem strsS_of {K : PySem.W.Frag} {mu : Addr → Prop} {H : Hp} : ∀ {ds : List PyData} {zs : List Str} {xs : List V}, strsS ds = some zs → DtAll K mu H xs ds → xs = zs.map V.str
  | [], _, _, e, .nil => by cases e; rfl
  | d :: ds, zs, _, e, .cons (v := v) h r => by
    unfold strsS at e
    split at e
    · rename_i q; cases q
    · rename_i z r' q
      cases q
      simp only [Option.map_eq_some_iff] at e
      obtain ⟨zs', e1, rfl⟩ := e
      rw [strsS_of e1 r, h.text]
      rfl
    · cases e
theorem dlenset {a : Expr} {p p2 q pos : Pos} (hc : X.calm = true) (hg : Gl X "len") (hm : X.mg "len" = none) (hg2 : Gl X "set") (hm2 : X.mg "set" = none) (ha : PE X a (lft X.K Z fa))
    (na : starEach [a] X.env = (false, eval a X.env) :: starEach [] X.env := by rfl) : PE X (.Call (.Name "len" p) [.Call (.Name "set" p2) [a] [] q] [] pos) (lft X.K Z (dUn gLenSet fa)) := by
  refine ⟨fun pins s σ H Q I h => ?_⟩
  obtain ⟨M, sl, d, sl', rl, hf, k⟩ := h
  obtain ⟨d1, f1, g1⟩ := dUn_some hf
  refine Call_ (ld_blt I hg hm boot_len ?_)
  refine PyProof.Rows.callWith_builtin1 (PyProof.Rows.args_cons ?_ rfl) rfl rfl
  refine Call_ (ld_blt I hg2 hm2 boot_set ?_)
  refine PyProof.Rows.callWith_type1 (PyProof.Rows.args_cons (thn (ha.run pins s σ H (fun v H1 => Kq Z M H M H1 ∧ Rel X.K Z M σ H1 sl' ∧ Dt X.K (Mu Z M) H1 v d1) I ⟨M, sl, d1, sl', rl, f1, fun v H' k1 r1 t1 => ⟨k1, r1, t1⟩⟩) fun v s1 ⟨x, H1, I1, r1, k1, r2, t1⟩ => PyProof.Rows.args_nil ?_) na) na rfl
  unfold gLenSet at g1
  split at g1
  case h_2 => cases g1
  rename_i ds
  simp only [Option.bind_eq_some_iff] at g1
  obtain ⟨zs, e1, e2⟩ := g1
  split at e2
  case isFalse => cases e2
  rename_i few
  cases e2
  obtain ⟨l, xs, rfl, hq, u1⟩ := t1.tuple
  obtain rfl := strsS_of e1 u1
  cases r1
  obtain ⟨its, r, pl, hz⟩ := I1.tuple hq
  refine call_set_texts zs (I1.ok.hd hc) pl (by simpa using strsAre_of r) few fun h' tk hS hk => ?_
  refine PyProof.Rows.args_nil ?_
  obtain ⟨o, es, ep, t, ho, hex, hd, _, _, _, hf', hn⟩ := hS
  have I2 : Inv X pins σ H1 { s1 with heap := h', toks := tk } := I1.kept fun b o e => hk b o e
  have := unl_le zs zs.length
  exact call_len_set ho hex hd hf' (by rw [hn]; unfold scanBound at few; omega) ⟨.int (unl zs zs.length), H1, I2.tok _, ⟨_, by rw [hn]⟩, k _ H1 k1 r2 (.int _)⟩
end
end Dl

/-! ### repr of data -/
namespace Dl
open PySem PySem.Spec PyProof.Rows L2
/-- what is known where a text of a thing is made: no text of a thing is being made, and where the modules' table stands -/
structure CG (X : Cx) : Prop where
  gd : X.A.guards = some []
  un : X.A.units + 100 < cLine
  sys : ∃ o es n, X.base.get? sysModules = some o ∧ o.data = .dict es n

mutual
def realAll : PyData → Bool
  | .list xs | .tuple xs => realAlls xs
  | .dict kvs => realKvs kvs
  | _ => true
def realAlls : List PyData → Bool
  | [] => true
  | x :: xs => realAll x && realAlls xs
def realKvs : List (PyData × PyData) → Bool
  | [] => true
  | (.none, _) :: _ => false
  | (_, v) :: r => realAll v && realKvs r
end
def gRepr : List PyData → Option PyData
  | [d] => if d.showable && realAll d && decide (d.shown.length ≤ sizeLine) && decide (d.depth ≤ 60) then some (.str d.shown) else none
  | _ => none

section
variable {X : Cx} {pins : List (Addr × Obj)} {σ : L2.St} {H : Hp} {s : Shared} {mu : Addr → Prop}
theorem sys_not (I : Inv X pins σ H s) (c : CG X) : H sysModules = none ∧ ∃ o es n, s.heap.get? sysModules = some o ∧ o.data = .dict es n := by
  obtain ⟨o, es, n, h1, h2⟩ := c.sys
  exact ⟨(I.bs _ _ h1).2, o, es, n, (I.bs _ _ h1).1, h2⟩
theorem list_not_sys {a : Addr} {its : Array Value} (I : Inv X pins σ H s) (c : CG X) (p : PlainL s.heap a its) : sysModules ≠ a := fun e => by
  obtain ⟨_, o, es, n, h1, h2⟩ := sys_not I c
  obtain ⟨o', n', q1, _, _, q2⟩ := p
  rw [e] at h1
  rw [h1] at q1
  cases q1
  rw [h2] at q2
  cases q2
mutual
theorem reads_of (I : Inv X pins σ H s) (c : CG X) : ∀ {v : V} {u : Value} {d : PyData}, Dt X.K mu H v d → RelV v u → realAll d = true → ∃ as, Reads s.heap u d as ∧ sysModules ∉ as
  | _, _, _, .non, r, _ => by cases r; exact ⟨[], .none, by simp⟩
  | _, _, _, .bl b, r, _ => by cases r; exact ⟨[], .bool b, by simp⟩
  | _, _, _, .int i, r, _ => by obtain ⟨t, rfl⟩ := r; exact ⟨[], .int i t, by simp⟩
  | _, _, _, .str x, r, _ => by obtain ⟨t, rfl⟩ := r; exact ⟨[], .str x t, by simp⟩
  | _, _, _, .lst h _ t, r, g => by
    cases r
    obtain ⟨its, r, p, _⟩ := I.list (.inl h)
    obtain ⟨as, h1, h2⟩ := readsAll_of I c t r (by simpa [realAll] using g)
    have ns := list_not_sys I c p
    obtain ⟨o, n, q1, q2, _, q3⟩ := p
    exact ⟨_, .list q1 q2 q3 (by simpa using h1), by simp [ns, h2]⟩
  | _, _, _, .scr h t, r, g => by simp [realAll, realKvs] at g
  | _, _, _, .tup h _ t, r, g => by
    cases r
    obtain ⟨its, r, ⟨o, q1, q2, n, q3⟩, _⟩ := I.tuple (.inl h.rd)
    obtain ⟨as, h1, h2⟩ := readsAll_of I c t r (by simpa [realAll] using g)
    exact ⟨_, .tuple q1 q2 q3 (by simpa using h1), h2⟩
  | _, _, _, .tupK h _ t, r, g => by
    cases r
    obtain ⟨its, r, ⟨o, q1, q2, n, q3⟩, _⟩ := I.tuple (h H)
    obtain ⟨as, h1, h2⟩ := readsAll_of I c t r (by simpa [realAll] using g)
    exact ⟨_, .tuple q1 q2 q3 (by simpa using h1), h2⟩
  | _, _, _, .dct (a := a) h _ t, r, g => by
    cases r
    obtain ⟨_, ns, vs, kv, o, es, ep, q1, q2, q3, _, q4, _⟩ := I.hok _ _ h
    obtain ⟨as, bs, h1, h2, h3, h4⟩ := readsKv_of I c t kv q4 (by simpa [realAll] using g)
    exact ⟨_, .dict q1 q2.1 q3 h1 h2, by
      have no : sysModules ≠ a := fun e => (by rw [← e] at ns; simp at ns)
      simp [h3, h4, no]⟩
theorem readsAll_of (I : Inv X pins σ H s) (c : CG X) : ∀ {vs : List V} {us : List Value} {ds : List PyData}, DtAll X.K mu H vs ds → Vals vs us → realAlls ds = true → ∃ as, ReadsAll s.heap us ds as ∧ sysModules ∉ as
  | _, _, _, .nil, r, _ => by cases r; exact ⟨[], .nil, by simp⟩
  | _, _, _, .cons h t, .cons r1 r2, g => by
    simp only [realAlls, Bool.and_eq_true] at g
    obtain ⟨as, h1, h2⟩ := reads_of I c h r1 g.1
    obtain ⟨bs, h3, h4⟩ := readsAll_of I c t r2 g.2
    exact ⟨as ++ bs, .cons h1 h3, by simp [h2, h4]⟩
theorem readsKv_of (I : Inv X pins σ H s) (c : CG X) : ∀ {kvs : List (Key × V)} {vs : List (Key × Value)} {es : List DictEntry} {ds : List (PyData × PyData)}, DtKv X.K mu H kvs ds → KV kvs vs → Pairs (mixKind X.prog X.w) es vs → realKvs ds = true →
    ∃ as bs, ReadsAll s.heap (es.map (·.key)) (ds.map (·.1)) as ∧ ReadsAll s.heap (es.map (·.val)) (ds.map (·.2)) bs ∧ sysModules ∉ as ∧ sysModules ∉ bs
  | _, _, _, _, .nil, r, p, _ => by cases r; cases p; exact ⟨[], [], .nil, .nil, by simp, by simp⟩
  | _, _, _, _, .cons (k := k) (d := d) (ds := dr) h t, .cons (b := q) r1 r2, .cons p1 p2 p3, g => by
    obtain ⟨k', u⟩ := q
    obtain ⟨e1, r1⟩ := r1
    have e1' : k = k' := e1
    subst e1'
    have g' : realAll d = true ∧ realKvs dr = true := by
      cases k with
      | inl i => simpa [kD, realKvs] using g
      | inr x => simpa [kD, realKvs] using g
    obtain ⟨as, bs, h1, h2, h3, h4⟩ := readsKv_of I c t r2 p3 g'.2
    obtain ⟨cs, h5, h6⟩ := reads_of I c h r1 g'.1
    rw [List.map_cons, List.map_cons, List.map_cons, List.map_cons, p2]
    refine ⟨as, cs ++ bs, ?_, .cons h5 h2, h3, by simp [h6, h4]⟩
    rcases keyIs_shape p1 with ⟨i, t, e3, e4⟩ | ⟨x, t, e3, e4⟩
    · have e3' : k = Sum.inl i := e3
      subst e3'
      rw [e4]
      exact .cons (as := []) (.int i t) h1
    · have e3' : k = Sum.inr x := e3
      subst e3'
      rw [e4]
      exact .cons (as := []) (.str x t) h1
end
end
section
variable {X : Cx}
/-- what repr wants and gives -/
def rRepr (K : PySem.W.Frag) : List V → Hp → VK → Prop := fun xs H Q => ∃ mu d, DtAll K mu H xs [d] ∧ (d.showable && realAll d && decide (d.shown.length ≤ sizeLine) && decide (d.depth ≤ 60)) = true ∧ Q (.str d.shown) H
theorem call_repr (c : CG X) : CallR X (.builtin "repr") (rRepr X.K) := by
  intro pins s σ H xs us Q I r h
  obtain ⟨mu, d, t, g, q⟩ := h
  simp only [Bool.and_eq_true, decide_eq_true_eq] at g
  obtain ⟨⟨⟨g1, g2⟩, g3⟩, g4⟩ := g
  cases t with
  | cons h t =>
  cases t
  cases r with
  | cons r1 r2 =>
  cases r2
  obtain ⟨as, h1, h2⟩ := reads_of I c h r1 g2
  have out : ∀ {s' : Shared} {t : Tok}, Inv X pins σ H s' → EP X pins σ Q (.str d.shown t) s' := fun {s' t} I' => ⟨.str d.shown, H, I', ⟨t, rfl⟩, q⟩
  cases h1 with
  | none => exact P.repr_of_none (out (I.tok _))
  | bool b => exact P.repr_of_bool (by have z := out (t := s.toks) (I.tok (s.toks + 1)); simpa [PyData.shown] using z)
  | int i t => exact P.repr_of_int (by simpa [PyData.showable] using g1) (by have z := out (t := s.toks) (I.tok (s.toks + 1)); simpa [PyData.shown] using z)
  | str x t => exact P.repr_of_str (by have z := out (t := s.toks) (I.tok (s.toks + 1)); simpa [PyData.shown] using z) (by simpa [PyData.shown] using g3)
  | list a1 a2 a3 a4 => exact repr_of_reads' (.list a1 a2 a3 a4) g1 (fun _ => h2) c.gd (by have := c.un; omega) (fun _ _ e => e) (fun h' u tk hk => out (I.kept hk)) g3
  | tuple a1 a2 a3 a4 => exact repr_of_reads' (.tuple a1 a2 a3 a4) g1 (fun _ => h2) c.gd (by have := c.un; omega) (fun _ _ e => e) (fun h' u tk hk => out (I.kept hk)) g3
  | dict a1 a2 a3 a4 a5 => exact repr_of_reads' (.dict a1 a2 a3 a4 a5) g1 (fun _ => h2) c.gd (by have := c.un; omega) (fun _ _ e => e) (fun h' u tk hk => out (I.kept hk)) g3
theorem ok_repr {K : PySem.W.Frag} : CallOk K (rRepr K) gRepr := fun mu H xs ds d Q _ t e k => by
  unfold gRepr at e
  split at e
  · split at e
    case isFalse => cases e
    rename_i hg
    cases e
    exact ⟨mu, _, t, hg, k _ H (fun _ _ z => z) (.str _)⟩
  · cases e
end
end Dl

/-! ### the law's own call -/
namespace Dl
open PySem PySem.Spec PyProof.Rows L2
section
variable {P : Program} {w : World} {K : PySem.W.Frag} {mg : Str → Option Value} {base : Heap}
/-- a body of data run at the values handed in -/
theorem lf_start {N : List Str} {n : Nat} {b : DS} {vs : List V} {H : Hp} {Q : VK} {E : XK} (h : spP K (fnP N n b) vs H Q E) : ∃ Z : Par, lfS K Z b { nx := fun _ H' => Q .non H', rt := Q } (L2.start N vs) H := by
  obtain ⟨mu, ds, d, h1, h2, h3, h4⟩ := h
  unfold fnP at h3
  split at h3
  case isFalse => cases h3
  refine ⟨⟨H, [], mu, .nil⟩, [], startS N ds, ?_⟩
  have back : ∀ a, Mu ⟨H, [], mu, .nil⟩ [] a → mu a := fun a q => q.elim id fun q => q.elim (fun z => by cases z) fun z => by cases z
  have r : Rel K ⟨H, [], mu, .nil⟩ [] (L2.start N vs) H (startS N ds) := by
    refine ⟨fun _ _ e _ => e, fun _ ha => (by cases ha), h1, fun _ ha => (by cases ha), ?_⟩
    unfold startS L2.start
    rw [h2.len]
    exact slAll_start _ (h2.mono fun a o e n => ⟨e, fun z => n (back a z)⟩)
  have keep : ∀ {M : List Addr} {σ : L2.St} {H1 : Hp} {s1 : Sl}, Rel K ⟨H, [], mu, .nil⟩ M σ H1 s1 → ∀ a o, H a = some o → H1 a = some o := fun r1 a o e => r1.base a o e fun z => by cases z
  unfold outP at h3
  split at h3
  · rename_i d1 s1 hq
    cases h3
    exact ⟨_, r, hq, fun M σ H1 v k1 r1 t1 => h4 v H1 (keep r1) (t1.mono fun a o e n => ⟨e, fun z => n (.inl z)⟩)⟩
  · rename_i s1 hq
    cases h3
    exact ⟨_, r, hq, fun M σ H1 k1 r1 => h4 _ H1 (keep r1) .non⟩
  · cases h3
/-- a def of data, called where all around is known -/
theorem run_here {x p : Str} {st : Stmt} {f : Addr} {fd : FuncData} {N : List Str} {k : Nat} {b : DS} {A : Around} {outer : List Env} {s : Shared} {H : Hp} {u : Value} {v : V} {Q : VK}
    (F : Fun K x x st f fd) (S : FnScope N [p] (defScope st)) (room : Room (k + 1) A) (e0 : Env0 P w K mg base A outer s H) (bt : BindsTo s fd ⟨[u], []⟩ [(p, u)]) (rv : RelV v u)
    (hb : ∀ (cdv : Value) (Z : Par), Room k (A.deeper (envOfC x (defScope st) s.heap.objs.size f cdv)) → PSs (cxOf CX0 P w K mg base N x (defScope st) f cdv A outer s H E0).nox (defBody st) (lfS K Z b)) (q : spP K (fnP N 1 b) [v] H Q E0) :
    codeAny (model P w) A (.call (.ref f) ⟨[u], []⟩) (CR CX0 outer P w H s Q E0) s := by
  obtain ⟨⟨oc, od, kV, doc, pm, an, cdv, ct, osl, e1, lk, hcd⟩, kp⟩ := F
  subst e1
  have keeps : ∀ b o, base.get? b = some o → s.heap.get? b = some o := fun b o e => (e0.bs b o e).1
  have In := e0.mod.kin.keeps keeps
  have slots : ∀ y ∈ [(p, u)], (defScope st).names.lookup y.1 = some .local ∨ ((defScope st).names.lookup y.1 = some .cell ∧ ((cellsFrom (s.heap.objs.size + 1) (defScope st).names []).lookup y.1).isSome = true) := fun y hy => by
    obtain rfl := List.mem_singleton.mp hy
    exact (S.par p (List.mem_singleton.mpr rfl)).imp id fun z => ⟨z, PySem.W.cellsFrom_some _ _ _ (.inl z)⟩
  refine codeAny_call_function room.depth (In _ _ lk) rfl S.co S.gen rfl (PySem.W.codeRec_of In hcd) (bt _ _ _ _ (wpAny_newFunctionEnv_cells S.kind slots fun env he t0 io => ?_))
  cases he
  refine ⟨(e0.mod.nolimit.keeps keeps).keeps io.toInCall.keep, codeAny_func ?_⟩
  obtain ⟨Z, ready⟩ := lf_start q
  have begun : Inv (cxOf CX0 P w K mg base N x (defScope st) f cdv A outer s H E0) [] (L2.start N [v]) H t0 := inv_start S room.hd e0 rfl (.cons rv .nil) io
  refine wpAny_mono ((hb cdv Z (room.deeper _)).nox.run [] t0 _ H _ begun ready) (fun fl t1 done => ?_) fun _ _ z => z
  have close : ∀ {τ : L2.St} {H1 : Hp} {x1 : V} {y1 : Value}, Inv (cxOf CX0 P w K mg base N x (defScope st) f cdv A outer s H E0) [] τ H1 t1 → RelV x1 y1 → Q x1 H1 → CE outer P w H s Q y1 t1 := fun {_ H1 x1 _} J a c => ⟨x1, H1, J.os, J.bare, J.base, J.hok, a, c⟩
  match fl, done with
  | .ret _, ⟨_, _, _, J, a, c⟩ => exact close J a c
  | .next, ⟨_, _, J, c⟩ => exact close (x1 := V.non) J rfl c
  | .brk, ⟨_, _, _, z⟩ => exact z.elim
  | .cont, ⟨_, _, _, z⟩ => exact z.elim
end
end Dl
namespace Dl
open PySem PySem.Spec PyProof.Rows L2
section
variable {P : Program} {w : World} {K : PySem.W.Frag} {mg mb : Str → Option Value}
/-- the script as the law finds it: the caller's own list, or one of the module's -/
theorem script_in {h : Heap} {a : Addr} {vs : List Value} {ns : List Int} (KX : K.In h) (ha : h.get? a = some { cls := .type "list", data := .seq vs.toArray }) (hi : IntsAre vs ns) (few : ns.length ≤ sizeLine) :
    ∃ H : Hp, HOk P w H h ∧ (∀ b u, H b = some u → b = a ∧ K.lookup a = none ∧ ∃ o u', u = .frz o u') ∧ ((Rd H a (.lst (ns.map V.int))) ∨ ∀ H', SqL K H' a (ns.map V.int)) := by
  have rv := vals_ints hi
  have len : vs.length = ns.length := hi.length
  cases look : K.lookup a with
  | some o =>
    have same := KX a o look
    rw [ha] at same
    cases same
    refine ⟨fun _ => none, fun _ _ z => (by cases z), fun _ _ z => (by cases z), .inr fun H' => .inr ⟨_, vs.toArray, 0, look, rfl, rfl, rfl, by rw [List.size_toArray, len]; exact few, by simpa using rv⟩⟩
  | none =>
    let H : Hp := fun b => if b = a then some (.frz { cls := .type "list", data := .seq vs.toArray } (.lst (ns.map V.int))) else none
    have at_a : H a = some (.frz { cls := .type "list", data := .seq vs.toArray } (.lst (ns.map V.int))) := if_pos rfl
    have only : ∀ b u, H b = some u → b = a := fun b u z => by
      by_cases q : b = a
      · exact q
      · have n : H b = none := if_neg q
        rw [n] at z; cases z
    refine ⟨H, fun b u z => ?_, fun b u z => ⟨only b u z, rfl, ?_⟩, .inl (.inr ⟨_, at_a⟩)⟩
    · obtain rfl := only b u z
      rw [at_a] at z
      cases z
      exact ⟨ha, by rw [List.length_map]; exact few, vs, 0, rv, ha⟩
    · obtain rfl := only b u z
      rw [at_a] at z
      cases z
      exact ⟨_, _, rfl⟩
/-- the law's def of data, called at the script, where it gives True -/
theorem law_here {x p : Str} {st : Stmt} {fa a : Addr} {fd : FuncData} {N : List Str} {k : Nat} {b : DS} {s₁ : Shared} {vs : List Value} {ns : List Int}
    (KX : K.In s₁.heap) (hns : s₁.heap.Ns mainGlobals mg) (hbl : s₁.heap.Ns builtinsNs mb) (hbb : ∀ y : Str, y ≠ "__name__" → mb y = bootBuiltins y) (hlim : s₁.heap.NoLimit) (hmo : ∃ mm, s₁.heap.Ns sysModules mm) (hg : s₁.gens = #[])
    (ha : s₁.heap.get? a = some { cls := .type "list", data := .seq vs.toArray }) (hi : IntsAre vs ns) (few : ns.length ≤ sizeLine) (room : Room (k + 1) callerA) (F : Fun K x x st fa fd) (S : FnScope N [p] (defScope st)) (bt : ∀ (s : Shared) (u : Value), BindsTo s fd ⟨[u], []⟩ [(p, u)])
    (body : ∀ (base : Heap) (cdv : Value) (s : Shared) (H : Hp) (Z : Par), Mod K mg base → Room k (callerA.deeper (envOfC x (defScope st) s.heap.objs.size fa cdv)) → CG (cxOf CX0 P w K mg base N x (defScope st) fa cdv callerA [] s H E0).nox →
      PSs (cxOf CX0 P w K mg base N x (defScope st) fa cdv callerA [] s H E0).nox (defBody st) (lfS K Z b))
    (true_ : fnP N 1 b [.dict [(.none, .list (ns.map .int))]] = some (.bool true)) :
    codeAny (model P w) callerA (.call (.ref fa) ⟨[.ref a], []⟩) (fun r s' => r = .ok (.ret (.bool true)) ∧ OldK s₁.heap s'.heap ∧ s'.os = s₁.os ∧ AllBare s'.gens) s₁ := by
  obtain ⟨H, hok, hH, here⟩ := script_in (P := P) (w := w) KX ha hi few
  have dict_free : ∀ {c : Addr} {o : Obj} {es : Array DictEntry} {n : Nat}, s₁.heap.get? c = some o → o.data = .dict es n → H c = none := fun {c o es n} e d => by
    cases z : H c with
    | none => rfl
    | some u =>
      obtain ⟨rfl, _⟩ := hH c u z
      rw [ha] at e
      cases e
      exact absurd (show Data.seq vs.toArray 0 = Data.dict es n from d) (by simp)
  have ns_in : ∀ {c : Addr} {m : Str → Option Value}, s₁.heap.Ns c m → (hidT s₁.heap H).Ns c m := fun ⟨o, es, n, e, d, r⟩ => ⟨o, es, n, hidT_get e (dict_free e d), d, r⟩
  have mod : Mod K mg (hidT s₁.heap H) := {
    kin := fun c o e => hidT_get (KX c o e) (by
      cases z : H c with
      | none => rfl
      | some u =>
        obtain ⟨rfl, q, _⟩ := hH c u z
        rw [q] at e; cases e)
    glob := ns_in hns
    blt := ⟨mb, ns_in hbl, hbb⟩
    nolimit := let ⟨mc, q1, q2⟩ := hlim; ⟨mc, ns_in q1, q2⟩ }
  have e0 : Env0 P w K mg (hidT s₁.heap H) callerA [] s₁ H := ⟨rfl, mod, fun _ _ e => of_hidT e, by rw [hidT_size]; exact Nat.le_refl _, trivial, fun c hc => (by cases hc), hok, .of_eq hg⟩
  have sys : ∃ o es n, (hidT s₁.heap H).get? sysModules = some o ∧ o.data = .dict es n := by
    obtain ⟨mm, o, es, n, e, d, _⟩ := hmo
    exact ⟨o, es, n, hidT_get e (dict_free e d), d⟩
  have t : Dt K (fun _ => False) H (.ref a) (.dict [(.none, .list (ns.map .int))]) := .scr (here.imp (fun z => ⟨z, fun z => z⟩) id) (dtAll_ints ns)
  refine codeAny_mono (run_here (v := .ref a) (Q := fun v _ => v = .bl true) F S room e0 (bt s₁ (.ref a)) rfl (fun cdv Z r => body _ cdv s₁ H Z mod r ⟨rfl, by show 4 + 3 + 100 < 9900; omega, sys⟩)
    ⟨fun _ => False, _, _, fun _ z => z.elim, .cons t .nil, true_, fun v H' _ tv => tv.bool⟩) fun r s' done => ?_
  match r, done with
  | .ok (.ret u), ⟨v, H', os, bare, un, ok', rv, q⟩ =>
    subst q
    obtain rfl : u = .bool true := rv
    refine ⟨rfl, OldK.of_keep fun c o e => ?_, os, bare⟩
    cases z : H c with
    | none => exact un.keep c o e z (by simp [frs]) (by simp)
    | some u =>
      obtain ⟨rfl, _, o', u', rfl⟩ := hH c u z
      have stay := (ok' c _ (un.frzs c o' u' z)).1
      have was := (hok c _ z).1
      rw [was] at e
      cases e
      exact stay
  | .ok .next, z => exact z.elim
  | .ok .brk, z => exact z.elim
  | .ok .cont, z => exact z.elim
  | .error e, z => exact (show False from z).elim
end
end Dl

/-! ### a law's head: what the top has written, by names -/
namespace Dl
open PySem PySem.Spec PyProof.Rows L2
mutual
/-- the value u of the module reads as the tree d -/
def rdB (K : PySem.W.Frag) : PyData → Value → Bool
  | .none, .none => true
  | .bool b, .bool c => decide (b = c)
  | .int i, .int j _ => decide (i = j)
  | .str x, .str y _ => decide (x = y)
  | .tuple ds, .ref a => match K.lookup a with
    | some ⟨.type t, none, .seq its _, _⟩ => decide (t = "tuple") && (decide (its.size ≤ sizeLine) && (keyless ds && rdBs K ds its.toList))
    | _ => false
  | _, _ => false
def rdBs (K : PySem.W.Frag) : List PyData → List Value → Bool
  | [], [] => true
  | d :: ds, u :: us => rdB K d u && rdBs K ds us
  | _, _ => false
end
mutual
theorem rdB_ok {K : PySem.W.Frag} : ∀ {d : PyData} {u : Value}, rdB K d u = true → ∃ v, RelV v u ∧ ∀ mu H, Dt K mu H v d
  | .none, u, h => by
    cases u <;> first | exact ⟨.non, rfl, fun _ _ => .non⟩ | (simp [rdB] at h)
  | .bool b, u, h => by
    cases u <;> first | (have e : b = _ := of_decide_eq_true h; subst e; exact ⟨.bl _, rfl, fun _ _ => .bl _⟩) | (simp [rdB] at h)
  | .int i, u, h => by
    cases u <;> first | (have e : i = _ := of_decide_eq_true h; subst e; exact ⟨.int _, ⟨_, rfl⟩, fun _ _ => .int _⟩) | (simp [rdB] at h)
  | .str x, u, h => by
    cases u <;> first | (have e : x = _ := of_decide_eq_true h; subst e; exact ⟨.str _, ⟨_, rfl⟩, fun _ _ => .str _⟩) | (simp [rdB] at h)
  | .tuple ds, u, h => by
    cases u with
    | ref a =>
      unfold rdB at h
      split at h
      · rename_i t od its n sl look
        simp only [Bool.and_eq_true, decide_eq_true_eq] at h
        obtain ⟨e, few, kl, h⟩ := h
        subst e
        obtain ⟨vs, r, t⟩ := rdBs_ok h
        exact ⟨.ref a, rfl, fun mu H => .tupK (fun H' => .inr ⟨_, its, n, look, rfl, rfl, few, r⟩) ⟨kl, _, look, rfl, rfl⟩ (t mu H)⟩
      · cases h
    | _ => simp [rdB] at h
  | .list ds, u, h => by cases u <;> simp [rdB] at h
  | .dict ds, u, h => by cases u <;> simp [rdB] at h
theorem rdBs_ok {K : PySem.W.Frag} : ∀ {ds : List PyData} {us : List Value}, rdBs K ds us = true → ∃ vs, Vals vs us ∧ ∀ mu H, DtAll K mu H vs ds
  | [], us, h => by
    cases us with
    | nil => exact ⟨[], .nil, fun _ _ => .nil⟩
    | cons => simp [rdBs] at h
  | d :: ds, us, h => by
    cases us with
    | nil => simp [rdBs] at h
    | cons u us =>
      simp only [rdBs, Bool.and_eq_true] at h
      obtain ⟨v, r1, t1⟩ := rdB_ok h.1
      obtain ⟨vs, r2, t2⟩ := rdBs_ok h.2
      exact ⟨v :: vs, .cons r1 r2, fun mu H => .cons (t1 mu H) (t2 mu H)⟩
end
def gcB (K : PySem.W.Frag) (c : Str × PyData) : Bool := match PySem.W.nsIn K mainGlobals c.1 with
  | some (some u) => rdB K c.2 u
  | _ => false
theorem gc_ok {K : PySem.W.Frag} {h : Heap} {mg : Str → Option Value} (X : K.In h) (G : h.Ns mainGlobals mg) {x : Str} {d : PyData} (c : gcB K (x, d) = true) : GC K mg x d := by
  unfold gcB at c
  split at c
  · rename_i u e
    obtain ⟨v, r, t⟩ := rdB_ok c
    exact ⟨u, v, PySem.W.mg_of X G e, r, t⟩
  · cases c
/-! ### the head's facts: built-ins' names free, defs, constants -/
def dOf (x : Str) (st : Stmt) : He.DefD := ⟨(x, none), x, x, defArgs st, defBody st, defScope st, [], []⟩
def obsM (n : Nat) (fa : List He.Fa) (fn : List He.DefD) (cs : List (Str × PyData)) (g : Addr → Option Obj) : Bool × He.AlD :=
  (cs.all (gcB (He.frG g (He.asD g n))), He.obsDG n fa fn g)
def hookM (n : Nat) (fa : List He.Fa) (fn : List He.DefD) (cs : List (Str × PyData)) : PySem.W.Hook where
  α := Bool × He.AlD
  obs := fun s => obsM n fa fn cs s.heap.get?
  val := fun _ => (true, He.valD fn)
  says := fun _ h => ∃ K : PySem.W.Frag, K.In h ∧ He.SaysD fa fn K ∧ cs.all (gcB K) = true
  of := fun _ _ e => ⟨_, He.frG_in, congrArg Prod.snd e, congrArg Prod.fst e⟩
  keeps := fun _ _ _ ⟨K, X, c⟩ k => ⟨K, PySem.W.Frag.In.keeps X k, c⟩
theorem obsM_eq {n : Nat} {fa : List He.Fa} {fn : List He.DefD} {cs : List (Str × PyData)} {g : Addr → Option Obj} {s : Shared} (h : ∀ a, g a = s.heap.get? a) : obsM n fa fn cs g = (hookM n fa fn cs).obs s := by
  obtain rfl : g = s.heap.get? := funext h
  rfl
section
variable {K : PySem.W.Frag} {h : Heap} {mg : Str → Option Value} {fa : List He.Fa} {fn : List He.DefD} {cs : List (Str × PyData)}
theorem const_of (X : K.In h) (G : h.Ns mainGlobals mg) (c : cs.all (gcB K) = true) (i : Nat) {x : Str} {d : PyData} (at_ : cs[i]? = some (x, d) := by rfl) : GC K mg x d :=
  gc_ok X G (List.all_eq_true.mp c _ (List.mem_of_getElem? at_))
theorem free_of (X : K.In h) (G : h.Ns mainGlobals mg) (c : He.SaysD fa fn K) (i : Nat) {x : Str} (at_ : fa[i]? = some (.free x) := by rfl) : mg x = none := He.free_ok X G (c.fact i at_)
theorem std_of (X : K.In h) (G : h.Ns mainGlobals mg) (c : He.SaysD fa fn K) (i j : Nat) {x : Str} {st : Stmt} {ps : List Str} (at_ : fn[i]? = some (dOf x st)) (gl : fa[j]? = some (.glo x))
    (bind : ∀ (kV doc pm : Value) (an : Option Addr) (cdv ct : Value) (us : List Value), us.length = ps.length → bindArgs (PySem.W.fnOf x x (defArgs st) (defBody st) (defScope st) .none kV doc pm an cdv ct) ⟨us, []⟩ = pure (ps.zip us)) : Std K mg x st ps := by
  obtain ⟨fd, F⟩ := c.def_ i at_
  have F' : Fun K x x st (He.ga K x) fd := He5.fun_of F
  exact ⟨_, fd, F', He.glo_ok X G (c.fact j gl), F'.binds bind⟩
end
/-- the law walked: what is asked of the program is that its meaning at each script is True -/
theorem walk_data {l : PySem.W.OpenLaw} {n k : Nat} {q : Program} {loose : List Str} {XP : (Str → Option Value) → Heap → Prop} {d : DefRec} {fa : List He.Fa} {fn : List He.DefD} {cs : List (Str × PyData)} {m : Nat} {x p : Str} {st : Stmt} {N : List Str} {b : DS}
    (most : l.most = some n) (few : n ≤ sizeLine) (hdf : d.params.defaults = []) (name : d.name = x) (alone : importsNone q = true) (room : Room (k + 1) callerA) (S : FnScope N [p] (defScope st))
    (F : ∀ (w : World) (mg : Str → Option Value) (h : Heap) (K : PySem.W.Frag), K.In h → h.Ns mainGlobals mg → He.SaysD fa fn K → cs.all (gcB K) = true → ∃ (f : Addr) (fd : FuncData), mg x = some (.ref f) ∧ Fun K x x st f fd ∧ (∀ (s : Shared) (u : Value), BindsTo s fd ⟨[u], []⟩ [(p, u)]) ∧
      ∀ (base : Heap) (cdv : Value) (s : Shared) (H : Hp) (Z : Par), Mod K mg base → Room k (callerA.deeper (envOfC x (defScope st) s.heap.objs.size f cdv)) → CG (cxOf CX0 l.prog w K mg base N x (defScope st) f cdv callerA [] s H E0).nox →
        PSs (cxOf CX0 l.prog w K mg base N x (defScope st) f cdv callerA [] s H E0).nox (defBody st) (lfS K Z b))
    (T : ∀ ns : List Int, ns.length ≤ n → fnP N 1 b [.dict [(.none, .list (ns.map .int))]] = some (.bool true)) :
    PySem.W.WalkO q loose XP (hookM m fa fn cs).says l.row.toRowW d [] (fun f vs => PySem.call f vs) := by
  refine Att.attach_call most hdf fun w s₀ s₁ mg mb f o pm cd doc a vs ns G Y _ _ _ hmg hobj hints hlen hg => ?_
  obtain ⟨K, X, c1, c2⟩ := Y
  obtain ⟨f', fd, e, Fn, bt, body⟩ := F w mg _ K X G.T.g c1 c2
  rw [name] at hmg
  cases e.symm.trans hmg
  obtain ⟨mm, sees, _⟩ := (G.T.seer alone).mods
  exact law_here X G.T.g G.T.b G.T.builtins G.T.nolimit ⟨mm, sees⟩ hg hobj hints (Nat.le_trans hlen few) room Fn S bt body (T ns hlen)
end Dl

/-! ### what a meaning gives: rules from the outside in -/
namespace Dl
open PySem PySem.Spec PyProof.Rows L2
structure Gd {α : Type} (o : Option α) (Q : α → Prop) : Prop where
  ex : ∃ a, o = some a ∧ Q a
structure Ge {α : Type} (o : Option (α × Sl)) (Q : α → Sl → Prop) : Prop where
  ex : ∃ a s, o = some (a, s) ∧ Q a s
structure Gs (o : Option Fl) (N : Sl → Prop) (R : PyData → Sl → Prop) : Prop where
  ex : (∃ s, o = some (.nx s) ∧ N s) ∨ ∃ d s, o = some (.rt d s) ∧ R d s
section
variable {α β : Type} {Q : PyData → Sl → Prop} {QA : List PyData → Sl → Prop} {QT : Bool → Sl → Prop} {N : Sl → Prop} {R : PyData → Sl → Prop} {s : Sl} {i j : Nat} {d : PyData} {fa fb fc : DE} {ga gb : DA} {ff : DF} {t t' : DT} {f g : DS} {D : PyData → Prop}
theorem gd {o : Option α} {a : α} {q : α → Prop} (e : o = some a) (h : q a) : Gd o q := ⟨a, e, h⟩
theorem gd_mono {o : Option α} {q r : α → Prop} (h : Gd o q) (k : ∀ a, q a → r a) : Gd o r := by
  obtain ⟨a, e, h⟩ := h
  exact ⟨a, e, k a h⟩
theorem ge_mono {o : Option (α × Sl)} {q r : α → Sl → Prop} (h : Ge o q) (k : ∀ a s, q a s → r a s) : Ge o r := by
  obtain ⟨a, s, e, h⟩ := h
  exact ⟨a, s, e, k a s h⟩
theorem gs_mono {o : Option Fl} {N' : Sl → Prop} {R' : PyData → Sl → Prop} (h : Gs o N R) (k : ∀ s, N s → N' s) (l : ∀ d s, R d s → R' d s) : Gs o N' R' := by
  obtain ⟨⟨s, e, h⟩ | ⟨d, s, e, h⟩⟩ := h
  · exact ⟨.inl ⟨s, e, k s h⟩⟩
  · exact ⟨.inr ⟨d, s, e, l d s h⟩⟩
theorem e_var (h : s[i]? = some (.dat d)) (k : Q d s) : Ge (dVar i s) Q := ⟨d, s, by unfold dVar; rw [h], k⟩
theorem e_c (k : Q d s) : Ge (dC d s) Q := ⟨d, s, rfl, k⟩
theorem e_op {g : PyData → PyData → Option PyData} (h : Ge (fa s) fun a s1 => Ge (fb s1) fun b s2 => Gd (g a b) fun d => Q d s2) : Ge (dOp g fa fb s) Q := by
  obtain ⟨a, s1, e1, b, s2, e2, d, e3, k⟩ := h
  exact ⟨d, s2, by unfold dOp; rw [e1, Option.bind_some, e2, Option.bind_some, e3]; rfl, k⟩
theorem e_un {g : PyData → Option PyData} (h : Ge (fa s) fun a s1 => Gd (g a) fun d => Q d s1) : Ge (dUn g fa s) Q := by
  obtain ⟨a, s1, e1, d, e3, k⟩ := h
  exact ⟨d, s1, by unfold dUn; rw [e1, Option.bind_some, e3]; rfl, k⟩
theorem e_chain {g g' : PyData → PyData → Option PyData} (h : Ge (fa s) fun a s1 => Ge (fb s1) fun b s2 => Gd (g a b) fun c => (c = .bool true ∧ Ge (fc s2) fun w s3 => Gd (g' b w) fun d => Q d s3) ∨ (c = .bool false ∧ Q (.bool false) s2)) : Ge (dChain g g' fa fb fc s) Q := by
  obtain ⟨a, s1, e1, b, s2, e2, c, e3, ⟨rfl, w, s3, e4, d, e5, k⟩ | ⟨rfl, k⟩⟩ := h
  · exact ⟨d, s3, by unfold dChain; rw [e1, Option.bind_some, e2, Option.bind_some, e3, Option.bind_some]; simp only [e4, Option.bind_some, e5, Option.map_some], k⟩
  · exact ⟨_, s2, by unfold dChain; rw [e1, Option.bind_some, e2, Option.bind_some, e3, Option.bind_some], k⟩
theorem e_l (h : Ge (ff s) fun ds s1 => Q (.list ds) s1) : Ge (dL ff s) Q := by
  obtain ⟨ds, s1, e, k⟩ := h
  exact ⟨_, s1, by unfold dL; rw [e]; rfl, k⟩
theorem e_b {g : List PyData → Option PyData} (h : Ge (ga s) fun ds s1 => Gd (g ds) fun d => Q d s1) : Ge (dB g ga s) Q := by
  obtain ⟨ds, s1, e, d, e2, k⟩ := h
  exact ⟨d, s1, by unfold dB; rw [e, Option.bind_some, e2]; rfl, k⟩
theorem e_tup (h : Ge (ga s) fun ds s1 => ds.length ≤ sizeLine ∧ Q (.tuple ds) s1) : Ge (dTup ga s) Q := by
  obtain ⟨ds, s1, e, l, k⟩ := h
  exact ⟨_, s1, by unfold dTup; rw [e, Option.bind_some, if_pos l], k⟩
theorem e_call {m : List PyData → Option PyData} (h : Ge (ga s) fun ds s1 => Gd (m ds) fun d => Q d s1) : Ge (dCall m ga s) Q := by
  obtain ⟨ds, s1, e, d, e2, k⟩ := h
  exact ⟨d, s1, by unfold dCall; rw [e, Option.bind_some, e2]; rfl, k⟩
theorem e_callM {m : List PyData → List PyData → Option (PyData × List PyData)} {p0 : List PyData} (c : contents s i = some p0) (h : Ge (ga s) fun ds s1 => ∃ pd, contents s1 i = some pd ∧ Gd (m pd ds) fun q => Q q.1 (setC s1 i q.2)) : Ge (dCallM m i ga s) Q := by
  obtain ⟨ds, s1, e, pd, e2, q, e3, k⟩ := h
  exact ⟨_, _, by unfold dCallM; rw [c, Option.bind_some, e, Option.bind_some, e2, Option.bind_some, e3]; rfl, k⟩
theorem e_ixc {p0 : List PyData} (c : contents s i = some p0) (h : Ge (fa s) fun k s1 => ∃ (n : Int) (ds : List PyData), k = .int n ∧ contents s1 i = some ds ∧ Gd (atI ds n) fun d => Q d s1) : Ge (dIxC i fa s) Q := by
  obtain ⟨k, s1, e, n, ds, rfl, e2, d, e3, q⟩ := h
  exact ⟨d, s1, by unfold dIxC; rw [c, Option.bind_some, e, Option.bind_some, e2, Option.bind_some]; simp only [e3, Option.map_some], q⟩
theorem e_and (h : Ge (fa s) fun a s1 => ∃ b, a = .bool b ∧ ((b = true ∧ Ge (fb s1) Q) ∨ (b = false ∧ Q (.bool false) s1))) : Ge (dAnd fa fb s) Q := by
  obtain ⟨a, s1, e, b, rfl, ⟨rfl, d, s2, e2, k⟩ | ⟨rfl, k⟩⟩ := h
  · exact ⟨d, s2, by unfold dAnd dTst; rw [e]; simp only [Option.bind_some, if_true, e2], k⟩
  · exact ⟨_, s1, by unfold dAnd dTst; rw [e]; simp, k⟩
theorem e_or (h : Ge (fa s) fun a s1 => ∃ b, a = .bool b ∧ ((b = true ∧ Q (.bool true) s1) ∨ (b = false ∧ Ge (fb s1) Q))) : Ge (dOr fa fb s) Q := by
  obtain ⟨a, s1, e, b, rfl, ⟨rfl, k⟩ | ⟨rfl, d, s2, e2, k⟩⟩ := h
  · exact ⟨_, s1, by unfold dOr dTst; rw [e]; simp, k⟩
  · exact ⟨d, s2, by unfold dOr dTst; rw [e]; simp [e2], k⟩
theorem e_not (h : Ge (fa s) fun a s1 => ∃ b, a = .bool b ∧ Q (.bool (!b)) s1) : Ge (dNot fa s) Q := by
  obtain ⟨a, s1, e, b, rfl, k⟩ := h
  exact ⟨_, s1, by unfold dNot dTst; rw [e]; rfl, k⟩
theorem e_if (h : Ge (t s) fun b s1 => (b = true ∧ Ge (fa s1) Q) ∨ (b = false ∧ Ge (fb s1) Q)) : Ge (dIf t fa fb s) Q := by
  obtain ⟨b, s1, e, ⟨rfl, d, s2, e2, k⟩ | ⟨rfl, d, s2, e2, k⟩⟩ := h
  · exact ⟨d, s2, by unfold dIf; rw [e]; simp [e2], k⟩
  · exact ⟨d, s2, by unfold dIf; rw [e]; simp [e2], k⟩
theorem e_sl {lo hi : DO} (h : Ge (fa s) fun a s1 => Ge (lo s1) fun l s2 => Ge (hi s2) fun r s3 => Gd (gSl a l r) fun d => Q d s3) : Ge (dSl fa lo hi s) Q := by
  obtain ⟨a, s1, e1, l, s2, e2, r, s3, e3, d, e4, k⟩ := h
  exact ⟨d, s3, by unfold dSl; rw [e1, Option.bind_some, e2, Option.bind_some, e3, Option.bind_some, e4]; rfl, k⟩
theorem o_n {q : Option Int → Sl → Prop} (k : q none s) : Ge (oN s) q := ⟨none, s, rfl, k⟩
theorem o_s {q : Option Int → Sl → Prop} (h : Ge (fa s) fun a s1 => ∃ n : Int, a = .int n ∧ q (some n) s1) : Ge (oS fa s) q := by
  obtain ⟨a, s1, e, n, rfl, k⟩ := h
  exact ⟨some n, s1, by unfold oS; rw [e]; rfl, k⟩
theorem a_nil (k : QA [] s) : Ge (aNil s) QA := ⟨[], s, rfl, k⟩
theorem a_cons (h : Ge (fa s) fun a s1 => Ge (ga s1) fun r s2 => QA (a :: r) s2) : Ge (aCons fa ga s) QA := by
  obtain ⟨a, s1, e1, r, s2, e2, k⟩ := h
  exact ⟨_, s2, by unfold aCons; rw [e1, Option.bind_some, e2]; rfl, k⟩
theorem f_lst (h : Ge (ga s) fun ds s1 => ds.length ≤ sizeLine ∧ QA ds s1) : Ge (fLst ga s) QA := by
  obtain ⟨ds, s1, e, l, k⟩ := h
  exact ⟨ds, s1, by unfold fLst; rw [e, Option.bind_some, if_pos l], k⟩
theorem f_call {m : List PyData → Option (List PyData)} (h : Ge (ga s) fun ds s1 => Gd (m ds) fun d => QA d s1) : Ge (fCall m ga s) QA := by
  obtain ⟨ds, s1, e, d, e2, k⟩ := h
  exact ⟨d, s1, by unfold fCall; rw [e, Option.bind_some, e2]; rfl, k⟩
theorem f_itA (h : Ge (fa s) fun a s1 => (∃ ds, (a = .list ds ∨ a = .tuple ds) ∧ QA ds s1) ∨ ∃ x, a = .str x ∧ QA (signs x) s1) : Ge (itA fa s) QA := by
  obtain ⟨a, s1, e, ⟨ds, rfl | rfl, k⟩ | ⟨x, rfl, k⟩⟩ := h
  · exact ⟨ds, s1, by unfold itA; rw [e]; rfl, k⟩
  · exact ⟨ds, s1, by unfold itA; rw [e]; rfl, k⟩
  · exact ⟨_, s1, by unfold itA; rw [e]; rfl, k⟩
theorem f_r1 (h : Ge (fa s) fun a s1 => ∃ n : Int, a = .int n ∧ 0 ≤ n ∧ n < 2 ^ 62 ∧ QA (rng 0 n) s1) : Ge (itR1 fa s) QA := by
  obtain ⟨a, s1, e, n, rfl, l1, l2, k⟩ := h
  exact ⟨_, s1, by unfold itR1; rw [e, Option.bind_some]; simp only; rw [if_pos ⟨by omega, l2⟩], k⟩
theorem t_tst (h : Ge (fa s) fun a s1 => ∃ b, a = .bool b ∧ QT b s1) : Ge (dTst fa s) QT := by
  obtain ⟨a, s1, e, b, rfl, k⟩ := h
  exact ⟨b, s1, by unfold dTst; rw [e]; rfl, k⟩
theorem t_and (h : Ge (t s) fun b s1 => (b = true ∧ Ge (t' s1) QT) ∨ (b = false ∧ QT false s1)) : Ge (dAndT t t' s) QT := by
  obtain ⟨b, s1, e, ⟨rfl, b', s2, e2, k⟩ | ⟨rfl, k⟩⟩ := h
  · exact ⟨b', s2, by unfold dAndT; rw [e]; simp [e2], k⟩
  · exact ⟨_, s1, by unfold dAndT; rw [e]; simp, k⟩
theorem t_or (h : Ge (t s) fun b s1 => (b = true ∧ QT true s1) ∨ (b = false ∧ Ge (t' s1) QT)) : Ge (dOrT t t' s) QT := by
  obtain ⟨b, s1, e, ⟨rfl, k⟩ | ⟨rfl, b', s2, e2, k⟩⟩ := h
  · exact ⟨_, s1, by unfold dOrT; rw [e]; simp, k⟩
  · exact ⟨b', s2, by unfold dOrT; rw [e]; simp [e2], k⟩
theorem t_not (h : Ge (t s) fun b s1 => QT (!b) s1) : Ge (dNotT t s) QT := by
  obtain ⟨b, s1, e, k⟩ := h
  exact ⟨_, s1, by unfold dNotT; rw [e]; rfl, k⟩
theorem t_yes (k : QT true s) : Ge (tYesD s) QT := ⟨true, s, rfl, k⟩
theorem s_seq (h : Gs (f s) (fun s1 => Gs (g s1) N R) R) : Gs (sSeq f g s) N R := by
  obtain ⟨⟨s1, e, h⟩ | ⟨d, s1, e, h⟩⟩ := h
  · obtain ⟨⟨s2, e2, h⟩ | ⟨d, s2, e2, h⟩⟩ := h
    · exact ⟨.inl ⟨s2, by unfold sSeq; rw [e]; exact e2, h⟩⟩
    · exact ⟨.inr ⟨d, s2, by unfold sSeq; rw [e]; exact e2, h⟩⟩
  · exact ⟨.inr ⟨d, s1, by unfold sSeq; rw [e]; rfl, h⟩⟩
theorem s_nil (k : N s) : Gs (sNil s) N R := ⟨.inl ⟨s, rfl, k⟩⟩
theorem s_set (h : Ge (fa s) fun d s1 => N (s1.set i (.dat d))) : Gs (sSet i fa s) N R := by
  obtain ⟨d, s1, e, k⟩ := h
  exact ⟨.inl ⟨_, by unfold sSet; rw [e]; rfl, k⟩⟩
theorem s_own (h : Ge (ff s) fun d s1 => i < s1.length ∧ N (s1.set i (.own d))) : Gs (sOwn i ff s) N R := by
  obtain ⟨d, s1, e, l, k⟩ := h
  exact ⟨.inl ⟨_, by unfold sOwn; rw [e, Option.bind_some, if_pos l], k⟩⟩
theorem s_ret (h : Ge (fa s) fun d s1 => R d s1) : Gs (sRet fa s) N R := by
  obtain ⟨d, s1, e, k⟩ := h
  exact ⟨.inr ⟨d, s1, by unfold sRet; rw [e]; rfl, k⟩⟩
theorem s_if (h : Ge (t s) fun b s1 => (b = true ∧ Gs (f s1) N R) ∨ (b = false ∧ Gs (g s1) N R)) : Gs (sIf t f g s) N R := by
  obtain ⟨b, s1, e, ⟨rfl, h⟩ | ⟨rfl, h⟩⟩ := h
  · have q : sIf t f g s = f s1 := by unfold sIf; rw [e]; simp
    rw [q]; exact h
  · have q : sIf t f g s = g s1 := by unfold sIf; rw [e]; simp
    rw [q]; exact h
theorem s_frz {ds : List PyData} (h : s[i]? = some (.own ds)) (k : N (s.set i (.dat (.list ds)))) : Gs (sFrz i s) N R := ⟨.inl ⟨_, by unfold sFrz; rw [h], k⟩⟩
theorem s_app {p0 : List PyData} (c : contents s i = some p0) (h : Ge (fa s) fun d s1 => ∃ ds, contents s1 i = some ds ∧ ds.length < sizeLine ∧ N (setC s1 i (ds ++ [d]))) : Gs (sApp i fa s) N R := by
  obtain ⟨d, s1, e, ds, e2, l, k⟩ := h
  exact ⟨.inl ⟨_, by unfold sApp; rw [c, Option.bind_some, e, Option.bind_some, e2, Option.bind_some, if_pos l], k⟩⟩
theorem s_setIx (h : Ge (fa s) fun d s1 => ∃ p0, contents s1 i = some p0 ∧ Ge (fb s1) fun k s2 => ∃ (n : Int) (ds : List PyData), k = .int n ∧ contents s2 i = some ds ∧ Gd (ixN ds.length n) fun j => N (setC s2 i (ds.set j d))) : Gs (sSetIx i fa fb s) N R := by
  obtain ⟨d, s1, e, p0, e2, k, s2, e3, n, ds, rfl, e4, j, e5, q⟩ := h
  exact ⟨.inl ⟨_, by unfold sSetIx; rw [e, Option.bind_some, e2, Option.bind_some, e3, Option.bind_some, e4, Option.bind_some]; simp only [e5, Option.map_some], q⟩⟩
theorem s_asg {gdt : PyData → Sl → Option Sl} (h : Ge (fa s) fun d s1 => Gd (gdt d s1) N) : Gs (sAsg fa gdt s) N R := by
  obtain ⟨d, s1, e, s2, e2, k⟩ := h
  exact ⟨.inl ⟨s2, by unfold sAsg; rw [e, Option.bind_some, e2]; rfl, k⟩⟩
theorem s_par (h : Ge (fa s) fun a s1 => Ge (fb s1) fun b s2 => N ((s2.set i (.dat a)).set j (.dat b))) : Gs (sPar i j fa fb s) N R := by
  obtain ⟨a, s1, e1, b, s2, e2, k⟩ := h
  exact ⟨.inl ⟨_, by unfold sPar; rw [e1, Option.bind_some, e2]; rfl, k⟩⟩
/-- a loop by an invariant over what is left -/
theorem s_for {gdt : PyData → Sl → Option Sl} (I : List PyData → Sl → Prop) (h : Ge (ff s) fun ds s1 => I ds s1) (turn : ∀ d r s1, I (d :: r) s1 → ∃ s2, gdt d s1 = some s2 ∧ Gs (f s2) (fun s3 => I r s3) R) (done : ∀ s1, I [] s1 → N s1) : Gs (sFor ff gdt f s) N R := by
  obtain ⟨ds, s1, e, h⟩ := h
  have go : ∀ (ds : List PyData) (s1 : Sl), I ds s1 → Gs (runFor gdt f ds s1) N R := fun ds => by
    induction ds with
    | nil => intro s1 h; exact ⟨.inl ⟨s1, rfl, done s1 h⟩⟩
    | cons d r ih =>
      intro s1 h
      obtain ⟨s2, e2, b⟩ := turn d r s1 h
      obtain ⟨⟨s3, e3, h3⟩ | ⟨d3, s3, e3, h3⟩⟩ := b
      · have q : runFor gdt f (d :: r) s1 = runFor gdt f r s3 := by
          rw [runFor, e2, Option.bind_some, e3, Option.bind_some]
        rw [q]; exact ih s3 h3
      · exact ⟨.inr ⟨d3, s3, by rw [runFor, e2, Option.bind_some, e3, Option.bind_some], h3⟩⟩
  have q : sFor ff gdt f s = runFor gdt f ds s1 := by unfold sFor; rw [e]; rfl
  rw [q]
  exact go ds s1 h
/-- a comprehension by an invariant over what is left and what is made -/
theorem f_lc (I : List PyData → List PyData → Sl → Prop) (h : Ge (ff s) fun ds s1 => isNo s1[j]? = true ∧ ds.length < sizeLine ∧ I ds [] s1)
    (turn : ∀ d r m s1, I (d :: r) m s1 → Ge (t (s1.set j (.dat d))) fun b s2 => notOwn s2[j]? = true ∧ ((b = true ∧ Ge (fa s2) fun x s3 => notOwn s3[j]? = true ∧ I r (m ++ [x]) s3) ∨ (b = false ∧ I r m s2)))
    (done : ∀ m s1, I [] m s1 → QA m (s1.set j .no)) : Ge (fLc ff j t fa s) QA := by
  obtain ⟨ds, s1, e, n, l, h⟩ := h
  have go : ∀ (ds m : List PyData) (s1 : Sl), I ds m s1 → ∃ xs s2, lcRun j t fa ds s1 = some (xs, s2) ∧ QA (m ++ xs) (s2.set j .no) := fun ds => by
    induction ds with
    | nil => intro m s1 h; exact ⟨[], s1, rfl, by rw [List.append_nil]; exact done m s1 h⟩
    | cons d r ih =>
      intro m s1 h
      obtain ⟨b, s2, e2, n2, ⟨rfl, x, s3, e3, n3, h3⟩ | ⟨rfl, h3⟩⟩ := turn d r m s1 h
      · obtain ⟨xs, s4, e4, h4⟩ := ih _ s3 h3
        exact ⟨x :: xs, s4, by rw [lcRun, e2, Option.bind_some]; simp only [n2, if_true, e3, Option.bind_some, n3, e4, Option.map_some], by simpa using h4⟩
      · obtain ⟨xs, s4, e4, h4⟩ := ih _ s2 h3
        exact ⟨xs, s4, by rw [lcRun, e2, Option.bind_some]; simp [n2, e4], h4⟩
  obtain ⟨xs, s2, e2, h2⟩ := go ds [] s1 h
  exact ⟨xs, s2.set j .no, by unfold fLc; rw [e, Option.bind_some, if_pos ⟨n, l⟩, e2]; rfl, h2⟩
/-- a comprehension whose parts change nothing -/
theorem f_lc_pure (T : PyData → Bool) (F : PyData → PyData) (h : Ge (ff s) fun ds s1 => isNo s1[j]? = true ∧ ds.length < sizeLine ∧ (∀ d ∈ ds, Ge (t (s1.set j (.dat d))) (fun b s2 => b = T d ∧ s2 = s1.set j (.dat d)) ∧
      (T d = true → Ge (fa (s1.set j (.dat d))) fun x s2 => x = F d ∧ s2 = s1.set j (.dat d))) ∧ QA ((ds.filter T).map F) s1) : Ge (fLc ff j t fa s) QA := by
  obtain ⟨ds, s1, e, n, l, turn, k⟩ := h
  have hn := isNo_eq n
  have hj : j < s1.length := by
    rcases Nat.lt_or_ge j s1.length with z | z
    · exact z
    · rw [List.getElem?_eq_none z] at hn; cases hn
  have same : s1.set j .no = s1 := by
    refine List.ext_getElem? fun i => ?_
    rw [List.getElem?_set]
    split
    · rename_i q
      subst q
      simp [hj]
      rw [List.getElem?_eq_getElem hj] at hn
      exact (Option.some.inj hn).symm
    · rfl
  refine f_lc (I := fun r m s' => ∃ pre, pre ++ r = ds ∧ m = (pre.filter T).map F ∧ ∀ v, s'.set j v = s1.set j v) ⟨ds, s1, e, n, l, [], rfl, rfl, fun _ => rfl⟩ (fun d r m s' hI => ?_) (fun m s' hI => ?_)
  · obtain ⟨pre, hp, rfl, hs⟩ := hI
    have mem : d ∈ ds := by rw [← hp]; simp
    obtain ⟨t1, t2⟩ := turn d mem
    rw [hs]
    have at_ : (s1.set j (.dat d))[j]? = some (.dat d) := by simp [hj]
    have back : ∀ v, (s1.set j (.dat d)).set j v = s1.set j v := fun v => by rw [List.set_set]
    refine ge_mono t1 fun b s2 q => ?_
    obtain ⟨rfl, rfl⟩ := q
    refine ⟨by rw [at_]; rfl, ?_⟩
    cases hT : T d with
    | true =>
      refine .inl ⟨rfl, ge_mono (t2 hT) fun x s3 q => ?_⟩
      obtain ⟨rfl, rfl⟩ := q
      exact ⟨by rw [at_]; rfl, pre ++ [d], by rw [← hp]; simp, by simp [List.filter_append, hT], back⟩
    | false => exact .inr ⟨rfl, pre ++ [d], by rw [← hp]; simp, by simp [List.filter_append, hT], back⟩
  · obtain ⟨pre, hp, rfl, hs⟩ := hI
    rw [List.append_nil] at hp
    subst hp
    rw [hs, same]
    exact k
/-! ### defs -/
theorem m_fnP {N : List Str} {n : Nat} {b : DS} {ds : List PyData} {q : PyData → Prop} (l : ds.length = n) (h : Gs (b (startS N ds)) (fun _ => q .none) fun d _ => q d) : Gd (fnP N n b ds) q := by
  obtain ⟨⟨s1, e, k⟩ | ⟨d, s1, e, k⟩⟩ := h
  · exact ⟨.none, by unfold fnP; rw [if_pos l, e]; rfl, k⟩
  · exact ⟨d, by unfold fnP; rw [if_pos l, e]; rfl, k⟩
theorem m_fnM {N : List Str} {n : Nat} {b : DS} {pd ds : List PyData} {q : PyData × List PyData → Prop} (l : ds.length + 1 = n)
    (h : Gs (b (startM N pd ds)) (fun s => ∃ pd', potOf s[0]? = some pd' ∧ q (.none, pd')) fun d s => ∃ pd', potOf s[0]? = some pd' ∧ q (d, pd')) : Gd (fnM N n b pd ds) q := by
  obtain ⟨⟨s1, e, pd', e2, k⟩ | ⟨d, s1, e, pd', e2, k⟩⟩ := h
  · exact ⟨_, by unfold fnM; rw [if_pos l, e]; simp only [outM, e2, Option.map_some], k⟩
  · exact ⟨_, by unfold fnM; rw [if_pos l, e]; simp only [outM, e2, Option.map_some], k⟩
theorem m_fnF {N : List Str} {n : Nat} {b : DF} {ds : List PyData} {q : List PyData → Prop} (l : ds.length = n) (h : Ge (b (startS N ds)) fun d _ => q d) : Gd (fnF N n b ds) q := by
  obtain ⟨d, s1, e, k⟩ := h
  exact ⟨d, by unfold fnF; rw [if_pos l, e]; rfl, k⟩
theorem r_seq {q : List PyData → Sl → Prop} (h : Gs (f s) (fun s1 => Ge (ff s1) q) fun _ _ => False) : Ge (rSeq f ff s) q := by
  obtain ⟨⟨s1, e, d, s2, e2, k⟩ | ⟨d, s1, e, k⟩⟩ := h
  · exact ⟨d, s2, by unfold rSeq; rw [e]; exact e2, k⟩
  · exact k.elim
theorem few_and {n : Nat} {p : Prop} (h : n ≤ 1000) (k : p) : n ≤ sizeLine ∧ p := ⟨Nat.le_trans h (by decide), k⟩
/-! ### numbers -/
theorem lg {x : Int} {k : Nat} (hk : 0 < k) (h0 : -(2 ^ k) < x) (h : x < 2 ^ k) : x.natAbs.log2 < k := by
  by_cases z : x.natAbs = 0
  · rw [z]; exact hk
  · refine (Nat.log2_lt z).mpr ?_
    have e : ((2 ^ k : Nat) : Int) = (2 : Int) ^ k := by simp
    omega
theorem two_pos (k : Nat) : (0 : Int) < 2 ^ k := Int.pow_pos (by decide)
theorem n_pow (k : Nat) {a : Int} {b : Nat} (ha : 0 ≤ a) (hl : a < 2 ^ k) (hk : 0 < k) (hb : k * b ≤ 2 ^ 20) (h : 0 ≤ a ^ b → D (.int (a ^ b))) : Gd (gPow (.int a) (.int b)) D := by
  have p := two_pos k
  have l : a.natAbs.log2 < k := lg hk (by omega) hl
  have c : (0 : Int) ≤ (b : Int) ∧ ((a.natAbs.log2 + 1 : Nat) : Int) * b ≤ 2 ^ 27 := by
    refine ⟨by omega, ?_⟩
    have e : (a.natAbs.log2 + 1) * b ≤ k * b := Nat.mul_le_mul_right _ l
    have e2 : (((a.natAbs.log2 + 1) * b : Nat) : Int) ≤ 2 ^ 20 := by
      have : ((2 ^ 20 : Nat) : Int) = 2 ^ 20 := by decide
      omega
    rw [Int.natCast_mul] at e2
    exact Int.le_trans e2 (by decide)
  refine gd (a := .int (a ^ b)) ?_ (h (Int.pow_nonneg ha))
  unfold gPow gInt
  simp only [c, and_self, if_true, Option.map_some, Int.toNat_natCast]
theorem n_add {a b : Int} (h : D (.int (a + b))) : Gd (gAdd (.int a) (.int b)) D := ⟨_, rfl, h⟩
theorem n_sub {a b : Int} (h : D (.int (a - b))) : Gd (gSub (.int a) (.int b)) D := ⟨_, rfl, h⟩
theorem n_mod {a b : Int} (l : 0 < b) (h : 0 ≤ a % b → a % b < b → D (.int (a % b))) : Gd (gMod (.int a) (.int b)) D := ⟨_, by unfold gMod gInt; simp only [l, if_true, Option.map_some], h (Int.emod_nonneg _ (by omega)) (Int.emod_lt_of_pos _ l)⟩
theorem n_div {a b : Int} (l : 0 < b) (u : b < 2 ^ 100) (h : D (.int (a / b))) : Gd (gDiv (.int a) (.int b)) D := by
  have c : 0 < b ∧ b.natAbs.log2 < 9000 := ⟨l, Nat.lt_of_lt_of_le (lg (by decide) (by have := two_pos 100; omega) u) (by decide)⟩
  exact ⟨_, by unfold gDiv gInt; simp only [c, and_self, if_true, Option.map_some], h⟩
theorem n_mul (k : Nat) {a b : Int} (ha : -(2 ^ k) < a) (ha' : a < 2 ^ k) (hb : -(2 ^ k) < b) (hb' : b < 2 ^ k) (hk : 0 < k) (few : k ≤ 400000) (h : D (.int (a * b))) : Gd (gMul (.int a) (.int b)) D := by
  have l1 := lg hk ha ha'
  have l2 := lg hk hb hb'
  have c : a.natAbs.log2 + b.natAbs.log2 < 1000000 := by omega
  exact ⟨_, by unfold gMul gInt; simp only [c, if_true, Option.map_some], h⟩
theorem n_gt {a b : Int} (h : D (.bool (decide (b < a)))) : Gd (gGt (.int a) (.int b)) D := ⟨_, rfl, h⟩
theorem n_ge {a b : Int} (h : D (.bool (decide (b ≤ a)))) : Gd (gGe (.int a) (.int b)) D := ⟨_, rfl, h⟩
theorem n_lt {a b : Int} (h : D (.bool (decide (a < b)))) : Gd (gLt (.int a) (.int b)) D := ⟨_, rfl, h⟩
theorem n_le {a b : Int} (h : D (.bool (decide (a ≤ b)))) : Gd (gLe (.int a) (.int b)) D := ⟨_, rfl, h⟩
end
end Dl

/-! ### while, a name forgotten, gcd, // by any divisor, the head by any check -/
namespace Dl
open PySem PySem.Spec PyProof.Rows L2
/-- while, n turns at most -/
def sWhile (t : DT) (b : DS) : Nat → DS
  | 0 => fun _ => none
  | n + 1 => fun s => (t s).bind fun p => if p.1 = true then (b p.2).bind fun fl => match fl with
      | .nx s' => sWhile t b n s'
      | .ct s' => sWhile t b n s'
      | .bk s' => some (.nx s')
      | .rt d s' => some (.rt d s')
    else some (.nx p.2)
/-- more turns than any loop here has -/
def bigF : Nat := 2 ^ 1000
/-- a name of which nothing is known from here on -/
def sFgt (j : Nat) : DS := fun s => if notOwn s[j]? = true then some (.nx (s.set j .no)) else none
section
variable {X : Cx} {Z : Par} {a b e : Expr} {es : List Expr} {pos : Pos} {fa fb fc : DE} {ff : DF} {ga : DA} {st : Stmt} {sts : List Stmt} {f g : DS} {t : DT}
theorem lift_while {K : PySem.W.Frag} {n : Nat} {D : Ends} {σ : L2.St} {H : Hp} (h : lfS K Z (sWhile t f n) D σ H) : tWhile (lfT K Z t) (lfS K Z f) D σ H := by
  obtain ⟨M, s, fl, rl, hf, k⟩ := h
  refine ⟨fun m σ' H' => ∃ M' s', Kq Z M H M' H' ∧ Rel K Z M' σ' H' s' ∧ sWhile t f m s' = some fl, ⟨n, M, s, Kq.refl _ _ _, rl, hf⟩, ?_⟩
  rintro m σ' H' ⟨M', s', k2, r2, h3⟩
  cases m with
  | zero => cases h3
  | succ m =>
    unfold sWhile at h3
    simp only [Option.bind_eq_some_iff] at h3
    obtain ⟨⟨b1, s1⟩, e1, h4⟩ := h3
    dsimp only at h4
    refine ⟨M', s', b1, s1, r2, e1, fun H1 k1 r1 => ?_⟩
    cases b1 with
    | true =>
      rw [if_pos rfl]
      rw [if_pos rfl] at h4
      simp only [Option.bind_eq_some_iff] at h4
      obtain ⟨fl1, e2, h5⟩ := h4
      refine ⟨fun σ3 H3 => ∃ M3 s3, Kq Z M H M3 H3 ∧ Rel K Z M3 σ3 H3 s3 ∧ sWhile t f m s3 = some fl, fun σ3 H3 q => ⟨m, Nat.lt_succ_self _, q⟩, ?_⟩
      refine ⟨M', s1, fl1, r1, e2, ?_⟩
      have kk : Kq Z M H M' H1 := k2.trans k1
      cases fl1 with
      | nx s4 => exact fun M4 σ4 H4 k4 r4 => ⟨M4, s4, kk.trans k4, r4, h5⟩
      | ct s4 => exact fun M4 σ4 H4 k4 r4 => ⟨M4, s4, kk.trans k4, r4, h5⟩
      | bk s4 => cases h5; exact fun M4 σ4 H4 k4 r4 => k M4 σ4 H4 (kk.trans k4) r4
      | rt d4 s4 => cases h5; exact fun M4 σ4 H4 v4 k4 r4 t4 => k M4 σ4 H4 v4 (kk.trans k4) r4 t4
    | false =>
      rw [if_neg Bool.false_ne_true]
      rw [if_neg Bool.false_ne_true] at h4
      cases h4
      exact k M' σ' H1 (k2.trans k1) r1
theorem swhile (n : Nat) {c : Expr} {body : List Stmt} (hp : PassesOwn (model X.prog X.w) X.A X.env X.xe) (hc : PT X c (lfT X.K Z t)) (hb : PSs X body (lfS X.K Z f)) : PS X (.While c body [] pos) (lfS X.K Z (sWhile t f n)) :=
  PSimp (ps_while hp hc hb) fun _ _ _ h => lift_while h
theorem sfgt {j : Nat} (h : PSs X sts (lfS X.K Z g)) : PSs X sts (lfS X.K Z (sSeq (sFgt j) g)) := PSsimp h fun D σ H h => by
  obtain ⟨M, s, fl, rl, h1, k⟩ := h
  unfold sSeq sFgt at h1
  simp only [Option.bind_eq_some_iff] at h1
  obtain ⟨fl1, h1, h2⟩ := h1
  split at h1
  · rename_i hn
    cases h1
    have q := rl.sl.forget (x := σ[j]?.join) j (notOwn_ne hn)
    have e : σ.set j (σ[j]?.join) = σ := by
      apply List.ext_getElem?
      intro i'
      by_cases e : i' = j
      · subst e
        by_cases hl : i' < σ.length
        · rw [List.getElem?_set_self hl, List.getElem?_eq_getElem hl]; rfl
        · rw [List.getElem?_eq_none (by simpa using hl), List.getElem?_eq_none (by simpa using hl)]
      · rw [List.getElem?_set_ne (Ne.symm e)]
    rw [e] at q
    exact ⟨M, _, fl, rl.withSl q, h2, k⟩
  · cases h1

/-! gcd -/
def gGcd : List PyData → Option PyData
  | [.int a, .int b] => some (.int ((Nat.gcd a.natAbs b.natAbs : Nat) : Int))
  | _ => none
theorem ok_gcd {K : PySem.W.Frag} : CallOk K rGcd gGcd := fun mu H xs ds d Q hm t e k => by
  unfold gGcd at e
  split at e
  · obtain ⟨x, y, rfl, t1, u⟩ := two_of t
    cases e
    exact ⟨_, _, by rw [t1.inti, u.inti], k _ H (fun _ _ z => z) (.int _)⟩
  · cases e
/-- a call of a built-in that a name of the module holds -/
theorem dcbf {x : Str} {p : Pos} {id : String} {r : List V → Hp → VK → Prop} {g : List PyData → Option PyData} (hc : CallR X (.builtin id) r) (ok : CallOk X.K r g) (hg : Gl X x) (hm : X.mg x = some (.builtin id)) (ha : PA X (e :: es) (lfA X.K Z ga))
    (hdb : (x == ("__debug__" : Str)) = false := by decide) (he : starEach (e :: es) X.env = (false, eval e X.env) :: starEach es X.env := by rfl) (hpl : (backTo pos (starEach es X.env)).any (·.1) = false := by rfl) : PE X (.Call (.Name x p) (e :: es) [] pos) (lft X.K Z (dB g ga)) :=
  PEimp (pe_callBfun hc hg hm ha hdb he hpl) fun _ _ _ h => lift_cb ok h

/-! // by any divisor but 0 -/
def CDivA (_ j : Int) : Prop := j ≠ 0 ∧ j.natAbs.log2 < 9000
theorem op_fdivA : OpR X (binaryOp .FloorDiv) (rI CDivA fun i j => .int (i.fdiv j)) := opI fun _ _ _ _ _ _ _ hc q => floordiv_int hc.1 q (.inl (PyProof.noPylong_of_log2 hc.2))
def gDivA : PyData → PyData → Option PyData := gInt fun a b => if b ≠ 0 ∧ b.natAbs.log2 < 9000 then some (a.fdiv b) else none
theorem ok_divA {K : PySem.W.Frag} : OpOk K (rI CDivA fun i j => .int (i.fdiv j)) gDivA := okI fun a b c h => by
  split at h
  · cases h; exact ⟨by assumption, rfl⟩
  · cases h
end
section
variable {N : Sl → Prop} {R : PyData → Sl → Prop} {s : Sl} {t : DT} {f g : DS} {D : PyData → Prop} {j : Nat}
theorem s_fgt (h : notOwn s[j]? = true) (k : N (s.set j .no)) : Gs (sFgt j s) N R := ⟨.inl ⟨_, by unfold sFgt; rw [if_pos h], k⟩⟩
/-- while by an invariant with its measure -/
theorem s_while {n : Nat} (I : Nat → Sl → Prop) (h : ∃ m, m < n ∧ I m s) (turn : ∀ m s, I m s → Ge (t s) fun b s1 => (b = true ∧ Gs (f s1) (fun s2 => ∃ m', m' < m ∧ I m' s2) R) ∨ (b = false ∧ N s1)) : Gs (sWhile t f n s) N R := by
  obtain ⟨m, hm, h⟩ := h
  induction n generalizing m s with
  | zero => omega
  | succ n ih =>
    obtain ⟨b, s1, e, ⟨rfl, q⟩ | ⟨rfl, q⟩⟩ := turn m s h
    · obtain ⟨⟨s2, e2, m', l, q⟩ | ⟨d, s2, e2, q⟩⟩ := q
      · have w : sWhile t f (n + 1) s = sWhile t f n s2 := by
          simp only [sWhile, e, Option.bind_some, if_true, e2]
        rw [w]
        exact ih m' (by omega) q
      · exact ⟨.inr ⟨d, s2, by simp only [sWhile, e, Option.bind_some, if_true, e2], q⟩⟩
    · exact ⟨.inl ⟨s1, by simp [sWhile, e], q⟩⟩
theorem n_divA {a b : Int} (l : 0 < b) (u : b < 2 ^ 200) (h : D (.int (a / b))) : Gd (gDivA (.int a) (.int b)) D := by
  have c : b ≠ 0 ∧ b.natAbs.log2 < 9000 := ⟨by omega, Nat.lt_of_lt_of_le (lg (by decide) (by have := two_pos 200; omega) u) (by decide)⟩
  refine ⟨_, ?_, h⟩
  unfold gDivA gInt
  simp only [c, and_self, ne_eq, not_false_eq_true, if_true, Option.map_some]
  rw [Int.fdiv_eq_ediv_of_nonneg a (by omega)]
theorem n_divN {a b : Int} (l : b ≠ 0) (u : b.natAbs < 2 ^ 200) (h : D (.int (a.fdiv b))) : Gd (gDivA (.int a) (.int b)) D := by
  have c : b ≠ 0 ∧ b.natAbs.log2 < 9000 := ⟨l, by
    by_cases z : b.natAbs = 0
    · rw [z]; decide
    · exact Nat.lt_of_lt_of_le ((Nat.log2_lt z).mpr u) (by decide)⟩
  refine ⟨_, ?_, h⟩
  unfold gDivA gInt
  simp only [c, and_self, ne_eq, not_false_eq_true, if_true, Option.map_some]
end

/-! ### the head by any check of it -/
def bnB (K : PySem.W.Frag) (c : Str × String) : Bool := He.eqO (PySem.W.nsIn K mainGlobals c.1) (some (some (.builtin c.2)))
def obsC (n : Nat) (fa : List He.Fa) (fn : List He.DefD) (ck : PySem.W.Frag → Bool) (g : Addr → Option Obj) : Bool × He.AlD :=
  (ck (He.frG g (He.asD g n)), He.obsDG n fa fn g)
def hookC (n : Nat) (fa : List He.Fa) (fn : List He.DefD) (ck : PySem.W.Frag → Bool) : PySem.W.Hook where
  α := Bool × He.AlD
  obs := fun s => obsC n fa fn ck s.heap.get?
  val := fun _ => (true, He.valD fn)
  says := fun _ h => ∃ K : PySem.W.Frag, K.In h ∧ He.SaysD fa fn K ∧ ck K = true
  of := fun _ _ e => ⟨_, He.frG_in, congrArg Prod.snd e, congrArg Prod.fst e⟩
  keeps := fun _ _ _ ⟨K, X, c⟩ k => ⟨K, PySem.W.Frag.In.keeps X k, c⟩
theorem obsC_eq {n : Nat} {fa : List He.Fa} {fn : List He.DefD} {ck : PySem.W.Frag → Bool} {g : Addr → Option Obj} {s : Shared} (h : ∀ a, g a = s.heap.get? a) : obsC n fa fn ck g = (hookC n fa fn ck).obs s := by
  obtain rfl : g = s.heap.get? := funext h
  rfl
section
variable {K : PySem.W.Frag} {h : Heap} {mg : Str → Option Value} {fa : List He.Fa} {fn : List He.DefD} {bs : List (Str × String)}
theorem bn_of (X : K.In h) (G : h.Ns mainGlobals mg) (c : bs.all (bnB K) = true) (i : Nat) {x : Str} {d : String} (at_ : bs[i]? = some (x, d) := by rfl) : mg x = some (.builtin d) :=
  PySem.W.mg_of X G (He.eqO_ok (List.all_eq_true.mp c _ (List.mem_of_getElem? at_)))
end
/-- the law walked: what is asked of the program is that its meaning at each script is True -/
theorem walk_dataC {l : PySem.W.OpenLaw} {n k : Nat} {q : Program} {loose : List Str} {XP : (Str → Option Value) → Heap → Prop} {d : DefRec} {fa : List He.Fa} {fn : List He.DefD} {ck : PySem.W.Frag → Bool} {m : Nat} {x p : Str} {st : Stmt} {N : List Str} {b : DS}
    (most : l.most = some n) (few : n ≤ sizeLine) (hdf : d.params.defaults = []) (name : d.name = x) (alone : importsNone q = true) (room : Room (k + 1) callerA) (S : FnScope N [p] (defScope st))
    (F : ∀ (w : World) (mg : Str → Option Value) (h : Heap) (K : PySem.W.Frag), K.In h → h.Ns mainGlobals mg → He.SaysD fa fn K → ck K = true → ∃ (f : Addr) (fd : FuncData), mg x = some (.ref f) ∧ Fun K x x st f fd ∧ (∀ (s : Shared) (u : Value), BindsTo s fd ⟨[u], []⟩ [(p, u)]) ∧
      ∀ (base : Heap) (cdv : Value) (s : Shared) (H : Hp) (Z : Par), Mod K mg base → Room k (callerA.deeper (envOfC x (defScope st) s.heap.objs.size f cdv)) → CG (cxOf CX0 l.prog w K mg base N x (defScope st) f cdv callerA [] s H E0).nox →
        PSs (cxOf CX0 l.prog w K mg base N x (defScope st) f cdv callerA [] s H E0).nox (defBody st) (lfS K Z b))
    (T : ∀ ns : List Int, ns.length ≤ n → fnP N 1 b [.dict [(.none, .list (ns.map .int))]] = some (.bool true)) :
    PySem.W.WalkO q loose XP (hookC m fa fn ck).says l.row.toRowW d [] (fun f vs => PySem.call f vs) := by
  refine Att.attach_call most hdf fun w s₀ s₁ mg mb f o pm cd doc a vs ns G Y _ _ _ hmg hobj hints hlen hg => ?_
  obtain ⟨K, X, c1, c2⟩ := Y
  obtain ⟨f', fd, e, Fn, bt, body⟩ := F w mg _ K X G.T.g c1 c2
  rw [name] at hmg
  cases e.symm.trans hmg
  obtain ⟨mm, sees, _⟩ := (G.T.seer alone).mods
  exact law_here X G.T.g G.T.b G.T.builtins G.T.nolimit ⟨mm, sees⟩ hg hobj hints (Nat.le_trans hlen few) room Fn S bt body (T ns hlen)
end Dl

/-! ### exceptions: what a body tells, or which class of exception leaves it -/
namespace Dl
open PySem PySem.Spec PyProof.Rows L2
inductive Rx (α : Type) where
  | ok (a : α) | ex (c : Str)
/-- .. with the names' state -/
inductive Ry (α : Type) where
  | ok (a : α) | ex (c : Str) (s : Sl)
abbrev DX := Sl → Option (Ry (PyData × Sl))
abbrev DTX := Sl → Option (Ry (Bool × Sl))
abbrev DAX := Sl → Option (Ry (List PyData × Sl))
inductive Fx where
  | fl (f : Fl) | ex (c : Str) (s : Sl)
abbrev DSx := Sl → Option Fx
/-- an exception of the class of that name is let out, the names being so -/
def ExAt (K : PySem.W.Frag) (mg : Str → Option Value) (Z : Par) (M : List Addr) (H : Hp) (W : WX) (c : Str) (s : Sl) : Prop :=
  ∀ (C : Addr) (M' : List Addr) (σ' : L2.St) (H' : Hp), mg c = some (.ref C) → Kq Z M H M' H' → Rel K Z M' σ' H' s → W (.ref C) none σ' H'
theorem ExAt.mono {K : PySem.W.Frag} {mg : Str → Option Value} {Z : Par} {M M1 : List Addr} {H H1 : Hp} {W : WX} {c : Str} {s : Sl} (k : Kq Z M H M1 H1) (h : ExAt K mg Z M H W c s) : ExAt K mg Z M1 H1 W c s := fun C M' σ' H' hm k1 r => h C M' σ' H' hm (k.trans k1) r
/-- .. out of an expression: the names are as they were -/
def ExE (K : PySem.W.Frag) (mg : Str → Option Value) (Z : Par) (M : List Addr) (σ : L2.St) (H : Hp) (W : WX) (c : Str) (s : Sl) : Prop :=
  ∀ (C : Addr) (H' : Hp), mg c = some (.ref C) → Kq Z M H M H' → Rel K Z M σ H' s → W (.ref C) none σ H'
theorem ExE.mono {K : PySem.W.Frag} {mg : Str → Option Value} {Z : Par} {M : List Addr} {σ : L2.St} {H H1 : Hp} {W : WX} {c : Str} {s : Sl} (k : Kq Z M H M H1) (h : ExE K mg Z M σ H W c s) : ExE K mg Z M σ H1 W c s := fun C H' hm k1 r => h C H' hm (k.trans k1) r
theorem ExAt.toE {K : PySem.W.Frag} {mg : Str → Option Value} {Z : Par} {M : List Addr} {σ : L2.St} {H : Hp} {W : WX} {c : Str} {s : Sl} (h : ExAt K mg Z M H W c s) : ExE K mg Z M σ H W c s := fun C H' hm k r => h C M σ H' hm k r
def lftx (K : PySem.W.Frag) (mg : Str → Option Value) (Z : Par) (W : WX) (f : DX) : TE := fun σ H Q => ∃ M s r, Rel K Z M σ H s ∧ f s = some r ∧ (match r with
  | .ok p => ∀ v H', Kq Z M H M H' → Rel K Z M σ H' p.2 → Dt K (Mu Z M) H' v p.1 → Q v H'
  | .ex c s' => ExE K mg Z M σ H W c s')
def lfTx (K : PySem.W.Frag) (mg : Str → Option Value) (Z : Par) (W : WX) (f : DTX) : TT := fun σ H Q => ∃ M s r, Rel K Z M σ H s ∧ f s = some r ∧ (match r with
  | .ok p => ∀ H', Kq Z M H M H' → Rel K Z M σ H' p.2 → Q p.1 H'
  | .ex c s' => ExE K mg Z M σ H W c s')
def lfAx (K : PySem.W.Frag) (mg : Str → Option Value) (Z : Par) (W : WX) (f : DAX) : TA := fun σ H Q => ∃ M s r, Rel K Z M σ H s ∧ f s = some r ∧ (match r with
  | .ok p => ∀ vs H', Kq Z M H M H' → Rel K Z M σ H' p.2 → DtAll K (Mu Z M) H' vs p.1 → Q vs H'
  | .ex c s' => ExE K mg Z M σ H W c s')
def FxOk (K : PySem.W.Frag) (mg : Str → Option Value) (Z : Par) (W : WX) (M : List Addr) (H : Hp) (D : Ends) : Fx → Prop
  | .fl fl => FlOk K Z M H D fl
  | .ex c s => ExAt K mg Z M H W c s
def lfSx (K : PySem.W.Frag) (mg : Str → Option Value) (Z : Par) (W : WX) (f : DSx) : TS := fun D σ H => ∃ M s r, Rel K Z M σ H s ∧ f s = some r ∧ FxOk K mg Z W M H D r
theorem fxOk_mono {K : PySem.W.Frag} {mg : Str → Option Value} {Z : Par} {W : WX} {m0 m1 : List Addr} {H0 H1 : Hp} {D : Ends} (k : Kq Z m0 H0 m1 H1) : ∀ {r : Fx}, FxOk K mg Z W m0 H0 D r → FxOk K mg Z W m1 H1 D r
  | .fl _, h => FlOk.mono k h
  | .ex _ _, h => ExAt.mono k h
def spX (K : PySem.W.Frag) (mg : Str → Option Value) (m : List PyData → Option (Rx PyData)) : Sp := fun vs H Q E => ∃ mu ds r, (∀ a, mu a → ∃ o, H a = some o) ∧ DtAll K mu H vs ds ∧ m ds = some r ∧ (match r with
  | .ok d => ∀ v H', (∀ a o, H a = some o → H' a = some o) → Dt K mu H' v d → Q v H'
  | .ex c => ∀ (C : Addr) (H' : Hp), mg c = some (.ref C) → (∀ a o, H a = some o → H' a = some o) → E (.ref C) none H')

/-! #### expressions -/
def xUp (f : DE) : DX := fun s => (f s).map .ok
def xCall (m : List PyData → Option (Rx PyData)) (g : DA) : DX := fun s => (g s).bind fun p => (m p.1).map fun r => match r with
  | .ok d => .ok (d, p.2)
  | .ex c => .ex c p.2
def xACons (f : DX) (g : DAX) : DAX := fun s => (f s).bind fun r => match r with
  | .ex c s' => some (.ex c s')
  | .ok p => (g p.2).map fun q => match q with
    | .ex c s' => .ex c s'
    | .ok q => .ok (p.1 :: q.1, q.2)
def xAUp (f : DA) : DAX := fun s => (f s).map .ok
def xTup (g : DAX) : DX := fun s => (g s).bind fun r => match r with
  | .ex c s' => some (.ex c s')
  | .ok p => if p.1.length ≤ sizeLine then some (.ok (.tuple p.1, p.2)) else none
def xTst (f : DX) : DTX := fun s => (f s).bind fun r => match r with
  | .ex c s' => some (.ex c s')
  | .ok (.bool b, s') => some (.ok (b, s'))
  | .ok _ => none
def xNotT (f : DTX) : DTX := fun s => (f s).map fun r => match r with
  | .ex c s' => .ex c s'
  | .ok p => .ok (!p.1, p.2)
/-- the call of a def that may raise, where it doesn't -/
def okOf (m : List PyData → Option (Rx PyData)) : List PyData → Option PyData := fun ds => match m ds with
  | some (.ok d) => some d
  | _ => none
section
variable {X : Cx} {Z : Par} {W : WX} {a b e : Expr} {es : List Expr} {pos : Pos} {fa fb : DE} {xa xb : DX} {ga : DA} {gx : DAX} {tx : DTX}
theorem xup (h : PE X e (lft X.K Z fa)) : PE X e (lftx X.K X.mg Z W (xUp fa)) := PEimp h fun σ H Q h => by
  obtain ⟨M, s, r, rl, hf, k⟩ := h
  unfold xUp at hf
  simp only [Option.map_eq_some_iff] at hf
  obtain ⟨⟨d, s1⟩, h1, rfl⟩ := hf
  exact ⟨M, s, d, s1, rl, h1, k⟩
theorem xaup (h : PA X es (lfA X.K Z ga)) : PA X es (lfAx X.K X.mg Z W (xAUp ga)) := PAimp h fun σ H Q h => by
  obtain ⟨M, s, r, rl, hf, k⟩ := h
  unfold xAUp at hf
  simp only [Option.map_eq_some_iff] at hf
  obtain ⟨⟨d, s1⟩, h1, rfl⟩ := hf
  exact ⟨M, s, d, s1, rl, h1, k⟩
theorem lift_xcall {K : PySem.W.Frag} {mg : Str → Option Value} {m : List PyData → Option (Rx PyData)} {σ : L2.St} {H : Hp} {Q : VK} (h : lftx K mg Z W (xCall m ga) σ H Q) : tCallS (spX K mg m) (WE W) (lfA K Z ga) σ H Q := by
  obtain ⟨M, s, r, rl, hf, k⟩ := h
  unfold xCall at hf
  simp only [Option.bind_eq_some_iff, Option.map_eq_some_iff] at hf
  obtain ⟨⟨ds, s1⟩, h1, r1, h2, h3⟩ := hf
  refine ⟨M, s, ds, _, rl, h1, fun vs H1 k1 rl1 t1 => ?_⟩
  show spX K mg m vs H1 Q (WE W σ)
  refine ⟨Mu Z M, ds, _, rl1.muT, t1, h2, ?_⟩
  cases r1 with
  | ok d =>
    cases h3
    exact fun v H2 g2 t2 => k v H2 (k1.trans (kq_grow g2)) (rl1.grow g2) t2
  | ex c =>
    cases h3
    exact fun C H' hm g => k C H' hm (k1.trans (kq_grow g)) (rl1.grow g)
def CalX (P : Program) (w : World) (K : PySem.W.Frag) (mg : Str → Option Value) (base : Heap) (k : Nat) (x : Str) (ps : List Str) (sp : Sp) : Prop := ∃ (f : Addr) (fd : FuncData), FnOk P w K mg base (L2.CX P w) k f fd ps sp ∧ mg x = some (.ref f) ∧ PySem.W.keepIn K (.ref f) = true ∧ Binds K fd ps []
theorem CalX.mono {P : Program} {w : World} {K : PySem.W.Frag} {mg : Str → Option Value} {base : Heap} {x : Str} {ps : List Str} {j k : Nat} {sp : Sp} (c : CalX P w K mg base j x ps sp) (h : j ≤ k) : CalX P w K mg base k x ps sp := by
  obtain ⟨f, fd, F, r⟩ := c
  exact ⟨f, fd, F.mono h, r⟩
theorem xcl {m : List PyData → Option (Rx PyData)} {j k : Nat} {x : Str} {ps : List Str} {p : Pos} (tk : Takes X W) (c : CalX X.prog X.w X.K X.mg X.base j x ps (spX X.K X.mg m)) (hr : Room k X.A) (hj : j ≤ k) (hg : Gl X x) (ha : PA X (e :: es) (lfA X.K Z ga))
    (hdb : (x == ("__debug__" : Str)) = false := by decide) (he : starEach (e :: es) X.env = (false, eval e X.env) :: starEach es X.env := by rfl) (hpl : (backTo pos (starEach es X.env)).any (·.1) = false := by rfl) :
    PE X (.Call (.Name x p) (e :: es) [] pos) (lftx X.K X.mg Z W (xCall m ga)) := by
  obtain ⟨f, fd, F, hm, hk, hb⟩ := c
  exact PEimp (pe_callS F (hr.mono hj) hg hm hk hb (fun σ => passAt tk σ) ha hdb he hpl) fun _ _ _ h => lift_xcall h
/-- called where it doesn't raise -/
theorem dclX {m : List PyData → Option (Rx PyData)} {j k : Nat} {x : Str} {ps : List Str} {p : Pos} (c : CalX X.prog X.w X.K X.mg X.base j x ps (spX X.K X.mg m)) (hr : Room k X.A) (hj : j ≤ k) (hg : Gl X x) (ha : PA X (e :: es) (lfA X.K Z ga))
    (hdb : (x == ("__debug__" : Str)) = false := by decide) (he : starEach (e :: es) X.env = (false, eval e X.env) :: starEach es X.env := by rfl) (hpl : (backTo pos (starEach es X.env)).any (·.1) = false := by rfl) :
    PE X (.Call (.Name x p) (e :: es) [] pos) (lft X.K Z (dCall (okOf m) ga)) := by
  obtain ⟨f, fd, F, hm, hk, hb⟩ := c
  refine PEimp (pe_call F (hr.mono hj) hg hm hk hb .nil (passL) ha hdb he hpl) fun σ H Q h => ?_
  obtain ⟨M, s, d, s', rl, hf, k⟩ := h
  unfold dCall okOf at hf
  simp only [Option.bind_eq_some_iff, Option.map_eq_some_iff] at hf
  obtain ⟨⟨ds, s1⟩, h1, d1, h2, h3⟩ := hf
  cases h3
  split at h2
  · rename_i d2 hm2
    cases h2
    refine ⟨M, s, ds, _, rl, h1, fun vs H1 k1 rl1 t1 => ?_⟩
    show spX X.K X.mg m (vs ++ []) H1 Q E0
    rw [List.append_nil]
    exact ⟨Mu Z M, ds, _, rl1.muT, t1, hm2, fun v H2 g2 t2 => k v H2 (k1.trans (kq_grow g2)) (rl1.grow g2) t2⟩
  · cases h2
theorem xac (ha : PE X e (lftx X.K X.mg Z W xa)) (hb : PA X es (lfAx X.K X.mg Z W gx)) (hs : starEach (e :: es) X.env = (false, eval e X.env) :: starEach es X.env := by rfl) : PA X (e :: es) (lfAx X.K X.mg Z W (xACons xa gx)) := PAimp (pa_cons ha hb hs) fun σ H Q h => by
  obtain ⟨M, s, r, rl, hf, k⟩ := h
  unfold xACons at hf
  simp only [Option.bind_eq_some_iff] at hf
  obtain ⟨r1, h1, h2⟩ := hf
  refine ⟨M, s, r1, rl, h1, ?_⟩
  cases r1 with
  | ex c s' => cases h2; exact k
  | ok p =>
    simp only [Option.map_eq_some_iff] at h2
    obtain ⟨r2, h2, h3⟩ := h2
    refine fun v H1 k1 rl1 t1 => ⟨M, p.2, r2, rl1, h2, ?_⟩
    cases r2 with
    | ex c s' => cases h3; exact ExE.mono k1 k
    | ok q => cases h3; exact fun vs H2 k2 rl2 t2 => k _ H2 (k1.trans k2) rl2 (.cons (t1.mono k2.kp) t2)
theorem xtup {x1} (h : PA X es (lfAx X.K X.mg Z W gx)) : PE X (.Tuple es x1 pos) (lftx X.K X.mg Z W (xTup gx)) := PEimp (pe_tupF h) fun σ H Q h => by
  obtain ⟨M, s, r, rl, hf, k⟩ := h
  unfold xTup at hf
  simp only [Option.bind_eq_some_iff] at hf
  obtain ⟨r1, h1, h2⟩ := hf
  refine ⟨M, s, r1, rl, h1, ?_⟩
  cases r1 with
  | ex c s' => cases h2; exact k
  | ok p =>
    dsimp only at h2
    split at h2
    · rename_i hz
      cases h2
      exact fun vs H1 k1 rl1 t1 => ⟨by rw [t1.len]; exact hz, fun p o hp ho => k _ _ (k1.trans (kq_grow (grow_new hp))) (rl1.grow (grow_new hp)) (dt_newT ho rl1.muT hp t1)⟩
    · cases h2
theorem xt (h : PE X e (lftx X.K X.mg Z W xa)) (he : ∀ whole, isTrue e X.env whole = (do let v ← whole; standAt e.pos; holding [v] (truthy v)) := by intro _; rfl) : PT X e (lfTx X.K X.mg Z W (xTst xa)) := PTimp (pt_val h he) fun σ H Q h => by
  obtain ⟨M, s, r, rl, hf, k⟩ := h
  unfold xTst at hf
  simp only [Option.bind_eq_some_iff] at hf
  obtain ⟨r1, h1, h2⟩ := hf
  refine ⟨M, s, r1, rl, h1, ?_⟩
  split at h2
  · cases h2; exact k
  · cases h2; exact fun v H1 k1 rl1 t1 => ⟨_, t1.bool, k H1 k1 rl1⟩
  · cases h2
theorem xtnot (h : PT X e (lfTx X.K X.mg Z W tx)) : PT X (.UnaryOp .Not e pos) (lfTx X.K X.mg Z W (xNotT tx)) := PTimp (pt_not h) fun σ H Q h => by
  obtain ⟨M, s, r, rl, hf, k⟩ := h
  unfold xNotT at hf
  simp only [Option.map_eq_some_iff] at hf
  obtain ⟨r1, h1, h2⟩ := hf
  refine ⟨M, s, r1, rl, h1, ?_⟩
  cases r1 with
  | ex c s' => cases h2; exact k
  | ok p => cases h2; exact fun H1 k1 rl1 => k H1 k1 rl1
end

/-! #### statements -/
def xsUp (f : DS) : DSx := fun s => (f s).map .fl
def xsSeq (f g : DSx) : DSx := fun s => (f s).bind fun r => match r with
  | .fl (.nx s') => g s'
  | r => some r
def xsIf (t : DT) (f g : DSx) : DSx := fun s => (t s).bind fun p => if p.1 = true then f p.2 else g p.2
def xsIfX (t : DTX) (f g : DSx) : DSx := fun s => (t s).bind fun r => match r with
  | .ex c s' => some (.ex c s')
  | .ok p => if p.1 = true then f p.2 else g p.2
def xsRet (f : DX) : DSx := fun s => (f s).map fun r => match r with
  | .ex c s' => .ex c s'
  | .ok p => .fl (.rt p.1 p.2)
def xsDrop (f : DX) : DSx := fun s => (f s).map fun r => match r with
  | .ex c s' => .ex c s'
  | .ok p => .fl (.nx p.2)
def xsSet (i : Nat) (f : DX) : DSx := fun s => (f s).map fun r => match r with
  | .ex c s' => .ex c s'
  | .ok p => .fl (.nx (p.2.set i (.dat p.1)))
def xsAsg (f : DX) (gd : PyData → Sl → Option Sl) : DSx := fun s => (f s).bind fun r => match r with
  | .ex c s' => some (.ex c s')
  | .ok p => (gd p.1 p.2).map fun s' => .fl (.nx s')
def xsRaise (c : Str) : DSx := fun s => some (.ex c s)
/-- an own class of exceptions, made with a text -/
structure ExcK (K : PySem.W.Frag) (mg : Str → Option Value) (c : Str) : Prop where
  at_ : ∃ C : Addr, mg c = some (.ref C) ∧ PySem.W.excIn K C [.type "ValueError", .type "Exception", .type "BaseException", .type "object"] "ValueError.__new__" = true ∧ PySem.W.keepIn K (.ref C) = true ∧ PySem.W.subIn K (.ref C) (.type "BaseException") = some true ∧ PySem.W.typeIn K (.ref C) = some (.type "type")
section
variable {X : Cx} {Z : Par} {W : WX} {a b e : Expr} {es : List Expr} {pos : Pos} {fa fb : DE} {xa xb : DX} {ga : DA} {gx : DAX} {tx : DTX} {t : DT} {st : Stmt} {sts : List Stmt} {f g : DSx} {fs : DS}
theorem xsup (h : PS X st (lfS X.K Z fs)) : PS X st (lfSx X.K X.mg Z W (xsUp fs)) := PSimp h fun D σ H h => by
  obtain ⟨M, s, r, rl, hf, k⟩ := h
  unfold xsUp at hf
  simp only [Option.map_eq_some_iff] at hf
  obtain ⟨fl, h1, rfl⟩ := hf
  exact ⟨M, s, fl, rl, h1, k⟩
theorem xssup (h : PSs X sts (lfS X.K Z fs)) : PSs X sts (lfSx X.K X.mg Z W (xsUp fs)) := PSsimp h fun D σ H h => by
  obtain ⟨M, s, r, rl, hf, k⟩ := h
  unfold xsUp at hf
  simp only [Option.map_eq_some_iff] at hf
  obtain ⟨fl, h1, rfl⟩ := hf
  exact ⟨M, s, fl, rl, h1, k⟩
theorem xscons (h1 : PS X st (lfSx X.K X.mg Z W f)) (h2 : PSs X sts (lfSx X.K X.mg Z W g)) : PSs X (st :: sts) (lfSx X.K X.mg Z W (xsSeq f g)) := PSsimp (pss_cons h1 h2) fun D σ H h => by
  obtain ⟨M, s, r, rl, hf, k⟩ := h
  unfold xsSeq at hf
  simp only [Option.bind_eq_some_iff] at hf
  obtain ⟨r1, h1, h2⟩ := hf
  refine ⟨M, s, r1, rl, h1, ?_⟩
  cases r1 with
  | ex c s' => cases h2; exact k
  | fl fl1 =>
    cases fl1 with
    | nx s1 =>
      refine fun M1 σ1 H1 k1 rl1 => ⟨M1, s1, r, rl1, h2, ?_⟩
      exact fxOk_mono k1 k
    | rt d s1 => cases h2; exact k
    | bk s1 => cases h2; exact k
    | ct s1 => cases h2; exact k
theorem xsone (h1 : PS X st (lfSx X.K X.mg Z W f)) : PSs X [st] (lfSx X.K X.mg Z W f) := pss_one h1
theorem xsnil : PSs X [] (lfSx X.K X.mg Z W (xsUp sNil)) := xssup snil
theorem xsfrz {i : Nat} (h : PSs X sts (lfSx X.K X.mg Z W g)) : PSs X sts (lfSx X.K X.mg Z W (xsSeq (xsUp (sFrz i)) g)) := PSsimp h fun D σ H h => by
  obtain ⟨M, s, r, rl, h1, k⟩ := h
  unfold xsSeq xsUp sFrz at h1
  simp only [Option.bind_eq_some_iff, Option.map_eq_some_iff] at h1
  obtain ⟨r1, ⟨fl1, h1, rfl⟩, h2⟩ := h1
  split at h1
  · rename_i ds hs
    cases h1
    obtain ⟨a, xs, M', g1, g2, g3, g4, g5, g6, g7⟩ := rl.sl.frz i hs
    have sub : ∀ b, Mu Z M' b → Mu Z M b := fun b hb => by
      rcases hb with hb | hb | hb
      · exact .inl hb
      · exact .inr (.inl hb)
      · exact .inr (.inr (g6 b hb))
    have na : ¬ Mu Z M' a := fun hb => by
      rcases hb with hb | hb | hb
      · exact (rl.fr a g4).2.2.1 hb
      · exact (rl.fr a g4).2.1 hb
      · exact g5 hb
    have kk : Kq Z M H M' H := fun c u e _ nn => ⟨e, fun z => nn (g6 c z)⟩
    refine ⟨M', _, r, ⟨rl.base, fun b hb => rl.fr b (g6 b hb), rl.mz, rl.pt, g7 _ sub na⟩, h2, ?_⟩
    exact fxOk_mono kk k
  · cases h1
theorem xsif {c : Expr} {xs ys : List Stmt} (hc : PT X c (lfT X.K Z t)) (ha : PSs X xs (lfSx X.K X.mg Z W f)) (hb : PSs X ys (lfSx X.K X.mg Z W g)) : PS X (.If c xs ys pos) (lfSx X.K X.mg Z W (xsIf t f g)) := PSimp (ps_if hc ha hb) fun D σ H h => by
  obtain ⟨M, s, r, rl, h1, k⟩ := h
  unfold xsIf at h1
  simp only [Option.bind_eq_some_iff] at h1
  obtain ⟨⟨c1, s1⟩, h1, h2⟩ := h1
  refine ⟨M, s, c1, s1, rl, h1, fun H1 k1 r1 => ?_⟩
  have k' := fxOk_mono k1 k
  cases c1 with
  | true => exact ⟨M, s1, r, r1, h2, k'⟩
  | false => exact ⟨M, s1, r, r1, h2, k'⟩
theorem xsifx {c : Expr} {xs ys : List Stmt} (hc : PT X c (lfTx X.K X.mg Z W tx)) (ha : PSs X xs (lfSx X.K X.mg Z W f)) (hb : PSs X ys (lfSx X.K X.mg Z W g)) : PS X (.If c xs ys pos) (lfSx X.K X.mg Z W (xsIfX tx f g)) := PSimp (ps_if hc ha hb) fun D σ H h => by
  obtain ⟨M, s, r, rl, h1, k⟩ := h
  unfold xsIfX at h1
  simp only [Option.bind_eq_some_iff] at h1
  obtain ⟨r1, h1, h2⟩ := h1
  refine ⟨M, s, r1, rl, h1, ?_⟩
  cases r1 with
  | ex c s' => cases h2; exact ExAt.toE k
  | ok p =>
    obtain ⟨c1, s1⟩ := p
    refine fun H1 k1 rl1 => ?_
    have k' := fxOk_mono k1 k
    cases c1 with
    | true => exact ⟨M, s1, r, rl1, h2, k'⟩
    | false => exact ⟨M, s1, r, rl1, h2, k'⟩
theorem xsret (he : PE X e (lftx X.K X.mg Z W xa)) : PS X (.Return (some e) pos) (lfSx X.K X.mg Z W (xsRet xa)) := PSimp (ps_ret he) fun D σ H h => by
  obtain ⟨M, s, r, rl, h1, k⟩ := h
  unfold xsRet at h1
  simp only [Option.map_eq_some_iff] at h1
  obtain ⟨r1, h1, h2⟩ := h1
  refine ⟨M, s, r1, rl, h1, ?_⟩
  cases r1 with
  | ex c s' => cases h2; exact ExAt.toE k
  | ok p => cases h2; exact fun v H1 k1 r1 t1 => k M σ H1 v k1 r1 t1
theorem xsdrop (he : PE X e (lftx X.K X.mg Z W xa)) (hs : swapsWith e none pos.line X.env = pure false := by rfl) : PS X (.Expr e pos) (lfSx X.K X.mg Z W (xsDrop xa)) := PSimp (ps_expr he hs) fun D σ H h => by
  obtain ⟨M, s, r, rl, h1, k⟩ := h
  unfold xsDrop at h1
  simp only [Option.map_eq_some_iff] at h1
  obtain ⟨r1, h1, h2⟩ := h1
  refine ⟨M, s, r1, rl, h1, ?_⟩
  cases r1 with
  | ex c s' => cases h2; exact ExAt.toE k
  | ok p => cases h2; exact fun v H1 k1 r1 t1 => k M σ H1 k1 r1
theorem xsset {i : Nat} {x : Str} {pos' : Pos} (hN : X.N.Nodup) (hi : X.N[i]? = some x) (hx : Loc X.env.scope x) (he : PE X e (lftx X.K X.mg Z W xa)) (hs : swapsWith e (some (.Name x pos')) pos.line X.env = pure false := by rfl)
    (hf : X.fn x = true ∨ X.env.scope.names.lookup x = some .local := by first | exact .inl rfl | exact .inr rfl | assumption) : PS X (.Assign [.Name x pos'] e pos) (lfSx X.K X.mg Z W (xsSet i xa)) := PSimp (ps_set hN hi hx he hs hf) fun D σ H h => by
  obtain ⟨M, s, r, rl, h1, k⟩ := h
  unfold xsSet at h1
  simp only [Option.map_eq_some_iff] at h1
  obtain ⟨r1, h1, h2⟩ := h1
  refine ⟨M, s, r1, rl, h1, ?_⟩
  cases r1 with
  | ex c s' => cases h2; exact ExAt.toE k
  | ok p =>
    cases h2
    refine fun v H1 k1 r1 t1 => ?_
    obtain ⟨M', _, r2, k2⟩ := r1.setDat t1 i
    exact k M' _ H1 (k1.trans k2) r2
theorem xsasg {tg : Expr} {g : TG} {gd : PyData → Sl → Option Sl} (he : PE X e (lftx X.K X.mg Z W xa)) (hg : PG X tg g) (hgd : TgOk X.K g gd) (hs : swapsWithSole [tg] e pos.line X.env = pure false := by rfl) (hw : swappedStores [tg] e X.env = pure none := by rfl)
    (h1 : (assignEach [tg] X.env).map (·.2) = [assign tg X.env] := by rfl) : PS X (.Assign [tg] e pos) (lfSx X.K X.mg Z W (xsAsg xa gd)) := PSimp (ps_asg he hg hs hw h1) fun D σ H h => by
  obtain ⟨M, s, r, rl, hf, k⟩ := h
  unfold xsAsg at hf
  simp only [Option.bind_eq_some_iff] at hf
  obtain ⟨r1, h1, h2⟩ := hf
  refine ⟨M, s, r1, rl, h1, ?_⟩
  cases r1 with
  | ex c s' => cases h2; exact ExAt.toE k
  | ok p =>
    simp only [Option.map_eq_some_iff] at h2
    obtain ⟨s2, h2, h3⟩ := h2
    cases h3
    exact fun v H1 k1 r1 t1 => hgd Z M σ H1 p.2 s2 v p.1 _ r1 t1 h2 fun M' σ' r2 k2 => k M' σ' H1 (k1.trans k2) r2
theorem xsraise {x m : Str} {j : Nat} {p p2 pos : Pos} {pos' : Pos} (c : ExcK X.K X.mg x) (hc : X.calm = true) (tk : Takes X W) (hg : Gl X x) (hdb : (x == ("__debug__" : Str)) = false := by decide) :
    PS X (.Raise (some (.Call (.Name x p) [.Constant (.str m) j p2] [] pos)) none pos') (lfSx X.K X.mg Z W (xsRaise x)) := by
  obtain ⟨C, hm, q1, q2, q3, q4⟩ := c.at_
  refine PSimp (ps_raise hc tk (pmk_own PySem.F.excBase_ValueError q1 hm q2 (raises_own q3 q4) hg hdb)) fun D σ H h => ?_
  obtain ⟨M, s, r, rl, hf, k⟩ := h
  cases hf
  exact k C M σ H hm (Kq.refl _ _ _) rl
end

/-! #### defs -/
def outX : Option Fx → Option (Rx PyData)
  | some (.fl (.rt d _)) => some (.ok d)
  | some (.fl (.nx _)) => some (.ok .none)
  | some (.ex c _) => some (.ex c)
  | _ => none
def fnX (N : List Str) (n : Nat) (b : DSx) : List PyData → Option (Rx PyData) := fun ds => if ds.length = n then outX (b (startS N ds)) else none
section
variable {P : Program} {w : World} {K : PySem.W.Frag} {mg : Str → Option Value} {base : Heap}
theorem okX {x qual : Str} {st : Stmt} {f : Addr} {fd : FuncData} {N ps : List Str} {k : Nat} {b : DSx} (F : Fun K x qual st f fd) (S : FnScope N ps (defScope st))
    (hb : ∀ (cdv : Value) (A : Around) (outer : List Env) (s : Shared) (H : Hp) (E : XK) (Z : Par), Room k (A.deeper (envOfC qual (defScope st) s.heap.objs.size f cdv)) → PSs (cxOf (L2.CX P w) P w K mg base N qual (defScope st) f cdv A outer s H E) (defBody st) (lfSx K mg Z (fun cls d _ H => E cls d H) b)) :
    FnOk P w K mg base (L2.CX P w) (k + 1) f fd ps (spX K mg (fnX N ps.length b)) := by
  refine F.okX S (fun vs H Q E h => ?_) (fun cdv A outer s H vs Q E hr h => ?_)
  · obtain ⟨mu, ds, d, h1, h2, h3, h4⟩ := h
    unfold fnX at h3
    split at h3
    · rename_i hl
      rw [h2.len]; exact hl
    · cases h3
  · obtain ⟨mu, ds, d, h1, h2, h3, h4⟩ := h
    unfold fnX at h3
    split at h3
    case isFalse => cases h3
    rename_i hl
    let Z : Par := ⟨H, [], mu, .nil⟩
    refine ⟨_, hb cdv A outer s H E Z hr, [], startS N ds, ?_⟩
    have muE : ∀ a, Mu Z [] a → mu a := fun a q => by
      rcases q with q | q | q
      · exact q
      · cases q
      · cases q
    have r : Rel K Z [] (start N vs) H (startS N ds) := by
      refine ⟨fun a o e _ => e, fun a ha => (by cases ha), h1, fun a ha => (by cases ha), ?_⟩
      unfold startS L2.start
      rw [h2.len]
      exact slAll_start _ (h2.mono fun a o e n => ⟨e, fun z => n (muE a z)⟩)
    unfold outX at h3
    split at h3
    · rename_i d1 s1 hq
      cases h3
      refine ⟨_, r, hq, fun M σ H1 v k1 r1 t1 => h4 v H1 (fun a o e => r1.base a o e (fun z => by cases z)) (t1.mono fun a o e n => ⟨e, fun z => n (.inl z)⟩)⟩
    · rename_i s1 hq
      cases h3
      refine ⟨_, r, hq, fun M σ H1 k1 r1 => h4 _ H1 (fun a o e => r1.base a o e (fun z => by cases z)) .non⟩
    · rename_i c s1 hq
      cases h3
      exact ⟨_, r, hq, fun C M σ H' hm k1 r1 => h4 C H' hm fun a o e => r1.base a o e fun z => by cases z⟩
    · cases h3
theorem calX {x : Str} {st : Stmt} {N ps : List Str} {k : Nat} {b : DSx} (F : Std K mg x st ps) (S : FnScope N ps (defScope st))
    (hb : ∀ (f : Addr) (cdv : Value) (A : Around) (outer : List Env) (s : Shared) (H : Hp) (E : XK) (Z : Par), Room k (A.deeper (envOfC x (defScope st) s.heap.objs.size f cdv)) → PSs (cxOf (L2.CX P w) P w K mg base N x (defScope st) f cdv A outer s H E) (defBody st) (lfSx K mg Z (fun cls d _ H => E cls d H) b)) :
    CalX P w K mg base (k + 1) x ps (spX K mg (fnX N ps.length b)) := by
  obtain ⟨f, fd, F, hm, hb2⟩ := F
  exact ⟨f, fd, okX F S (fun cdv A outer s H E Z hr => hb f cdv A outer s H E Z hr), hm, F.kp, hb2⟩
end
end Dl

/-! ### an exception caught and kept by a name -/
namespace Dl
open PySem PySem.Spec PyProof.Rows L2
section
variable {X : Cx} {pins : List (Addr × Obj)} {σ : L2.St} {H : Hp} {s : Shared} {a C : Addr}
theorem exZ_ok {P : Program} {w : World} {H : Hp} {h : Heap} {oe : Obj} {vs : Array Value} (e : h.get? a = some oe) (z : Zc (.ref C) none oe) (d : oe.data = .fields vs) : ObjOk P w H h a (ExZ C a) :=
  ⟨⟨oe, e, z, vs, d⟩, ⟨oe, e⟩, fun _ _ ⟨u, q, r⟩ k => ⟨u, k u q, r⟩⟩
/-- an object that came after the entry, not yet read, is read as an exception from here on -/
theorem Inv.notes (I : Inv X pins σ H s) {oe : Obj} {vs : Array Value} (e : s.heap.get? a = some oe) (z : Zc (.ref C) none oe) (d : oe.data = .fields vs) (hn : H a = none) (young : X.s_0.heap.get? a = none) (nl : a ≠ X.env.locals) (np : ∀ p ∈ X.pn ++ pins, p.1 ≠ a) : Inv X pins σ (upd H a (ExZ C a)) s := by
  have old : ∀ b o, X.s_0.heap.get? b = some o → b ≠ a := fun b o q w => by
    rw [w, young] at q
    cases q
  have stands : ∀ b u, H b = some u → upd H a (ExZ C a) b = some u := fun b u q => by
    rw [upd_ne (ne_of_none q hn)]
    exact q
  have ncell : ∀ x c, X.env.cells.lookup x = some c → c ≠ a := fun x c q w => by
    obtain ⟨v, o, h1, h2⟩ := I.cell x c q
    rw [w, e] at h1
    cases h1
    have h3 : oe.data = Data.cell v := h2
    rw [d] at h3
    cases h3
  exact {
    ok := I.ok
    os := I.os
    bare := I.bare
    base := {
      keep := I.base.keep
      slot := I.base.slot
      free := fun b o q n x => by
        rw [upd_ne (old b o q)]
        exact I.base.free b o q n x
      there := I.base.there
      tups := fun b xs q => stands _ _ (I.base.tups b xs q)
      frzs := fun b o u q => stands _ _ (I.base.frzs b o u q)
      tbls := fun b ps q => by
        obtain ⟨m, r⟩ := I.base.tbls b ps q
        exact ⟨m, stands _ _ r⟩ }
    loc := I.loc
    cell := I.cell
    free := by
      rw [upd_ne (fun w => nl w.symm)]
      exact I.free
    freeC := fun x c q => by
      rw [upd_ne (ncell x c q)]
      exact I.freeC x c q
    pin := fun p hp => by
      obtain ⟨h1, h2, h3⟩ := I.pin p hp
      exact ⟨h1, by rw [upd_ne (np p hp)]; exact h2, h3⟩
    hok := fun b u q => by
      by_cases hb : b = a
      · subst hb
        rw [upd_same] at q
        cases q
        exact exZ_ok e z d
      · rw [upd_ne hb] at q
        exact (I.hok b u q).stay (fun _ _ _ r => r) (fun c r => stands _ _ r) fun c xs r => stands _ _ r
    len := I.len }
end
/-- what is wished of an exception of a body whose clause keeps it: slot j has it, slot i is wiped -/
def wKeep (K : PySem.W.Frag) (c : Value) (i j n : Nat) (D : Ends) : WX := fun cls d σ H =>
  ∃ C : Addr, cls = .ref C ∧ d = none ∧ PySem.W.exmOne K (.ref C) c = some true ∧ (σ.length = n → ∀ a, H a = none → D.nx (((σ.set i (some (.ref a))).set j (some (.ref a))).set i none) (upd H a (ExZ C a)))
section
variable {X : Cx} {x n y : Str} {c : Value} {i j : Nat} {body : List Stmt} {np py pn pa pos pos' : Pos} {tb : WX → TS}
theorem ps_try_keep (hs : X.stack = X.env :: X.outer) (hf : X.env.frame = some X.env.locals) (hex : X.ex = []) (hN : X.N.Nodup) (hi : X.N[i]? = some n) (hln : X.env.kindOf n = some .local) (hj : X.N[j]? = some y) (hly : Loc X.env.scope y) (hc : Names X x c)
    (hb : ∀ (W : WX) (pn : List (Addr × Obj)) (xe : Value → Shared → Prop), Takes (X.tr pn xe) W → PassesOwn (model X.prog X.w) X.A X.env xe → PSs (X.tr pn xe) body (tb W))
    (hsu : ∀ (a : Addr) (oe : Obj) (pl : List (Addr × Obj)), PSs (X.suite a ((a, oe) :: pl)) [.Assign [.Name y py] (.Name n pn) pa] (fun D σ H => ∃ v, σ[i]? = some (some v) ∧ D.nx (σ.set j (some v)) H)) (hil : i < X.N.length) :
    PS X (.Try body [.ExceptHandler (some (.Name x np)) (some n) [.Assign [.Name y py] (.Name n pn) pa] pos'] [] [] pos) (fun D σ H => tb (wKeep X.K c i j X.N.length D) D σ H) := by
  refine ⟨fun pins s σ H D I h => ?_⟩
  have frames : X.A.frames = some (X.env :: X.outer) := I.ok.frames.trans (by rw [hs])
  have okX := I.ok
  have go := (hb (wKeep X.K c i j X.N.length D) (X.pn ++ pins) (fun ev t1 => wpAny (model X.prog X.w) X.A (noteFrame ev X.env) (fun _ t2 => wpAny (model X.prog X.w) X.A (setFlight ev none) (fun _ t3 =>
    wpAny (model X.prog X.w) X.A (handleBy ev X.env [.ExceptHandler (some (.Name x np)) (some n) [.Assign [.Name y py] (.Name n pn) pa] pos']) (SP X pins D) X.xe t3) X.xe t2) X.xe t1) (fun u t xx => ?_) PassesOwn.looking).run [] s σ H D (I.toTry _) h
  · refine wpAny_Try_except (wpAny_mono go (fun fl t done => ?_) fun _ _ z => z)
    cases fl with
    | next =>
      obtain ⟨σ1, H1, J, q⟩ := done
      exact wpAny_execs_nil ⟨σ1, H1, J.ofTry okX, q⟩
    | brk =>
      obtain ⟨σ1, H1, J, q⟩ := done
      exact ⟨σ1, H1, J.ofTry okX, q⟩
    | cont =>
      obtain ⟨σ1, H1, J, q⟩ := done
      exact ⟨σ1, H1, J.ofTry okX, q⟩
    | ret u =>
      obtain ⟨v, σ1, H1, J, r, q⟩ := done
      exact ⟨v, σ1, H1, J.ofTry okX, r, q⟩
  obtain ⟨a, B, tI, pl, σ1, H1, cls, dc, rfl, J0, inB, up, sky, na, os, bare, C, rfl, rfl, told, goal⟩ := xx
  have J : Inv X pins σ1 H1 tI := J0.ofTry okX
  have sky1 : Sky B (X.env :: X.outer) a (Zc (.ref C) none) X.env.locals t.heap := by rw [← hs]; exact sky
  show wpAny (model X.prog X.w) X.A (noteFrame (.ref a) X.env) _ _ _
  refine Sky.land Zc.steady frames hf sky1 fun h1 fly up1 => ?_
  have J1 : Inv X pins σ1 H1 { t with heap := h1 } := J.landed inB fly.1 (up.trans up1) os bare
  obtain ⟨o1, vs1, at1, z1, d1⟩ := fly.there
  have aFrame : a ∉ frs (X.env :: X.outer) := fun m => by
    obtain ⟨_, o2, at2, nof⟩ := fly.2.2.1.mem m
    rw [at1] at at2
    cases at2
    exact nof _ d1
  have aLoc : a ≠ X.env.locals := fun w => aFrame (List.mem_filterMap.mpr ⟨X.env, List.mem_cons_self, by rw [hf, w]⟩)
  have aFs : a ∉ X.fs := fun m => by
    obtain ⟨en, hen, q⟩ := List.mem_filterMap.mp m
    exact aFrame (List.mem_filterMap.mpr ⟨en, List.mem_cons_of_mem _ hen, q⟩)
  -- it wasn't there ahead
  have ahead : tI.heap.get? a = none := by
    cases q : tI.heap.get? a with
    | none => rfl
    | some o =>
      have w := inB a o q (by show a ∉ frs X.stack; rw [hs]; exact aFrame)
      rw [fly.2.1] at w
      cases w
  have young : X.s_0.heap.get? a = none := by
    cases q : X.s_0.heap.get? a with
    | none => rfl
    | some o =>
      obtain ⟨o', w⟩ := J.base.there a o q (by rw [hex]; exact List.not_mem_nil)
      rw [ahead] at w
      cases w
  have otherPins : ∀ p ∈ X.pn ++ pins, p.1 ≠ a := fun p hp w => by
    have q := (J.pin p hp).1
    rw [w, ahead] at q
    cases q
  refine wpAny_handleBy_cons (codeAny_handlers_test ?_) (by intro q; cases q)
  have ty : PySem.W.Looks (model X.prog X.w) h1 (typeOf (.ref a)) (.ref C) := fun _ _ _ _ k q => wpAny_typeOf_ref (k _ _ at1) (by rw [z1.1]; exact q)
  have matched := PySem.W.exm_one (M := model X.prog X.w) J1.kIn ty told
  have inSuite := J1.suite at1 d1 na aLoc aFs
  have named : ∀ {Q : Value → Shared → Prop} {F : Value → Shared → Prop}, Q c { t with heap := h1 } → wpAny (model X.prog X.w) (X.A.mark (some (.ref a))) (eval (.Name x np) X.env) Q F { t with heap := h1 } := fun {Q F} q => by
    obtain ⟨g1, g2, g3 | ⟨g3, g4, g5⟩⟩ := hc
    · exact ld_glob (X := X.suite a ((a, o1) :: (X.pn ++ pins))) inSuite g1 g3 q g2
    · exact ld_blt (X := X.suite a ((a, o1) :: (X.pn ++ pins))) inSuite g1 g3 g4 q g5 g2
  refine named (matched.here (codeAny_handlers_suite_as ?_))
  refine HandSPX.lands_againZ fly fun h2 fly2 up2 => ?_
  have J2 : Inv X pins σ1 H1 { t with heap := h2 } := J.landed inB fly2.1 ((up.trans up1).trans up2) os bare
  obtain ⟨o2, vs2, at2, z2, d2⟩ := fly2.there
  have inSuite2 := J2.suite at2 d2 na aLoc aFs
  refine store_ok (X := X.suite a ((a, o2) :: (X.pn ++ pins))) (v := .ref a) inSuite2 hN hi (.inl hln) rfl (fun t3 S3 => ?_) (.inr hln)
  have slot : (σ1.set i (some (V.ref a)))[i]? = some (some (.ref a)) := by
    rw [List.getElem?_set_self (by rw [J.len]; exact hil)]
  refine wpAny_mono ((hsu a o2 (X.pn ++ pins)).run [] t3 _ H1 { nx := fun σ' H' => σ' = (σ1.set i (some (V.ref a))).set j (some (.ref a)) ∧ H' = H1, rt := fun _ _ => False } S3 ⟨.ref a, slot, rfl, rfl⟩) (fun fl t4 done => ?_) fun _ _ z => z.elim
  cases fl with
  | next =>
    obtain ⟨σ4, H4, S4, e1, e2⟩ := done
    subst e1 e2
    obtain ⟨at4, _⟩ := S4.pin (a, o2) (List.mem_append_left _ List.mem_cons_self)
    have J4 : Inv X pins _ H4 t4 := S4.unsuite okX
    exact gone_ok (Dl.Inv.notes J4 at4 z2 d2 na young aLoc otherPins) hN hi hln fun t5 J5 => ⟨_, _, J5, goal J.len a na⟩
  | brk => obtain ⟨_, _, _, z⟩ := done; exact z.elim
  | cont => obtain ⟨_, _, _, z⟩ := done; exact z.elim
  | ret u => obtain ⟨_, _, _, _, _, z⟩ := done; exact z.elim
end
end Dl

/-! ### a lambda handed to a def that tells which exception came -/
namespace Dl
open PySem PySem.Spec PyProof.Rows L2
/-- the table at P, all of whose code objects bear the name q -/
def Tabl (H : Hp) (P : Addr) (q : Str) (old : Addr → Prop) : Prop := ∃ ps : Array Value, H P = some (.tbl ps) ∧ TriplesOk ps.toList ∧ ∀ (pos : Pos) (cv : Value), codeAmong pos ps.toList = some cv → ∃ c, cv = .ref c ∧ H c = some (LamX.CodeO c q) ∧ old c
section
variable {X : Cx} {pins : List (Addr × Obj)} {σ : L2.St} {H : Hp} {s : Shared}
/-- a lambda is made: nothing but the table and new objects changes -/
theorem lam_new {c P : Addr} {old : Addr → Prop} {ps0 : Arguments} {body : Expr} {scope : Scope} {pos : Pos} {F : Value → Shared → Prop} {Q : Value → Shared → Prop} (I : Inv X pins σ H s) (TB : LamX.TabB X.base X.mg c P) (hcode : X.env.code = .ref c)
    (tab : Tabl H P (X.env.qual ++ "<lambda>") old) (hdef : defaultsOf ps0 X.env = ([], [])) (hfree : ∀ y ∈ scope.names, y.2 = .free → ∃ c, X.env.cells.lookup y.1 = some c)
    (h : ∀ (f c' : Addr) (pm ctv : Value) (H1 : Hp) (s1 : Shared), Inv X pins σ H1 s1 → (∀ b o, b ≠ P → H b = some o → H1 b = some o) → Tabl H1 P (X.env.qual ++ "<lambda>") (fun c => old c ∨ H c = none) →
      s1.heap.get? f = some (PySem.W.kla_obj "<lambda>" (X.env.qual ++ "<lambda>") ps0 body scope (cloFrom X.env.cells scope.names []) pm c' ctv) → H1 f = none → f ∉ frs X.stack → H1 c' = some (LamX.CodeO c' (X.env.qual ++ "<lambda>")) → Q (.ref f) s1) :
    wpAny (model X.prog X.w) X.A (eval (.Lambda ps0 body scope pos) X.env) Q F s := by
  obtain ⟨ps, atP, tr, codes⟩ := tab
  have mods : s.heap.BuiltinsAt X.mg P := TB.bm.keeps I.bk
  have inHeap := I.hok P _ atP
  have outside : ∀ z, s.heap.objs.size ≤ z → z ∉ frs X.stack := fun z hz m => (List.mem_cons.mp (I.stkSub _ m)).elim (fun e => absurd I.lt (by rw [← e]; exact Nat.not_lt.mpr hz)) (I.nofs hz)
  refine PySem.W.kla_eval hdef ?_
  rcases found : codeAmong pos ps.toList with _ | cv
  · refine PySem.W.kla_makeFunction (closure_ok hfree) I.ok.glob (I.mod.glob.keeps I.bk) hcode (TB.code.keeps I.bk) inHeap tr found TB.gP mods fun c' ctv hp tk ext ge lt rec here => ?_
    obtain ⟨_, oc, us, u, e, g1, g2, g3⟩ := rec
    cases e
    have new : H c' = none := I.hok.fresh ge
    have J := LamX.inv_table (t' := tk) (more := #[rawInt pos.line, rawInt pos.col, .ref c']) (h' := hp.push (PySem.W.kla_obj "<lambda>" (X.env.qual ++ "<lambda>") ps0 body scope (cloFrom X.env.cells scope.names []) ((X.mg "__name__").getD .none) c' ctv)) I atP
      (fun b o nb e => Heap.get?_push_of_some _ (ext b o nb e)) (Heap.get?_push_of_some _ here) ge ⟨oc, us, u, Heap.get?_push_of_some _ g1, g2, g3⟩
    have stays : ∀ b o, b ≠ P → H b = some o → (upd (upd H P (.tbl (ps ++ #[rawInt pos.line, rawInt pos.col, .ref c']))) c' (LamX.CodeO c' (X.env.qual ++ "<lambda>"))) b = some o := fun b o nb e => by
      rw [upd_ne (ne_of_none e new), upd_ne nb]; exact e
    have two : (ps ++ #[rawInt pos.line, rawInt pos.col, .ref c']).toList = ps.toList ++ [rawInt pos.line, rawInt pos.col, .ref c'] := by simp
    have behind : s.heap.objs.size ≤ hp.objs.size := by omega
    refine h hp.objs.size c' ((X.mg "__name__").getD .none) ctv _ _ J stays ⟨ps ++ #[rawInt pos.line, rawInt pos.col, .ref c'], ?_, ?_, fun p2 cv hcv => ?_⟩ (Heap.get?_push_size _ rfl) ?_ (outside _ behind) upd_same
    · rw [upd_ne (ne_of_none atP new), upd_same]
    · rw [two]; exact TriplesOk_snoc _ _ _ _ tr
    · rw [two] at hcv
      rcases LamX.among_app _ tr hcv with z | z
      · obtain ⟨d, e1, e2, e3⟩ := codes p2 cv z
        refine ⟨d, e1, stays d _ (fun w => ?_) e2, .inl e3⟩
        rw [w, atP] at e2
        exact LamX.codeO_ne ps (Option.some.inj e2).symm
      · exact ⟨c', z, upd_same, .inr new⟩
    · rw [upd_ne (Nat.ne_of_gt lt), upd_ne (Nat.ne_of_gt (Nat.lt_of_lt_of_le (Heap.lt_size inHeap) behind))]
      exact I.hok.fresh behind
  · obtain ⟨c', e, co, ol⟩ := codes pos cv found
    subst e
    refine PySem.W.kla_makeFunctionHit (closure_ok hfree) I.ok.glob (I.mod.glob.keeps I.bk) hcode (TB.code.keeps I.bk) inHeap tr found mods fun ctv hp tk ext behind => ?_
    refine h hp.objs.size c' ((X.mg "__name__").getD .none) ctv H _ (I.kept (h' := hp.push (PySem.W.kla_obj "<lambda>" (X.env.qual ++ "<lambda>") ps0 body scope (cloFrom X.env.cells scope.names []) ((X.mg "__name__").getD .none) c' ctv)) (t' := tk) fun b o e => Heap.get?_push_of_some _ (ext b o e)) (fun _ _ _ e => e) ⟨ps, atP, tr, fun p2 cv z => ?_⟩ (Heap.get?_push_size _ rfl) (I.hok.fresh behind) (outside _ behind) co
    obtain ⟨d, e1, e2, e3⟩ := codes p2 cv z
    exact ⟨d, e1, e2, .inl e3⟩
def tWord (P : Addr) (q : Str) (TT : (XK → Hp → VK → Prop) → Hp → VK → Prop) (t : XK → TE) : TE := fun σ H Q => ∃ old : Addr → Prop, Tabl H P q old ∧ ∀ H1, (∀ b o, b ≠ P → H b = some o → H1 b = some o) → Tabl H1 P q (fun c => old c ∨ H c = none) → TT (fun E H' Q' => t E σ H' Q') H1 Q
/-- x(lambda: body) -/
theorem pe_word {TT : (XK → Hp → VK → Prop) → Hp → VK → Prop} {x a : Str} {g c P : Addr} {k : Nat} {pg : Arguments} {bg : List Stmt} {sg : Scope} {dV kV doc pm cdv ct oc : Value} {an od : Option Addr} {osl : Array (Option Value)} {Ng : List Str}
    {ps0 : Arguments} {body : Expr} {scope : Scope} {t : XK → TE} {p lpos pos : Pos} (hg : Gl X x) (hm : X.mg x = some (.ref g)) (hk : PySem.W.keepIn X.K (.ref g) = true)
    (lk : X.K.lookup g = some ⟨oc, od, .func (PySem.W.fnOf x x pg bg sg dV kV doc pm an cdv ct), osl⟩) (hcg : PySem.W.codeIn X.K cdv x = true) (hb : L2.Binds X.K (PySem.W.fnOf x x pg bg sg dV kV doc pm an cdv ct) [a] []) (Sg : FnScope Ng [a] sg) (hNg : Ng[0]? = some a) (hva : Vis sg a)
    (hG : LamX.GivesTo X Ng x sg g cdv bg a (X.env.qual ++ "<lambda>") TT)
    (TB : LamX.TabB X.base X.mg c P) (hcode : X.env.code = .ref c) (hr : Room (k + 2) X.A) (L : LamX.LamS X.env.scope scope) (hdef : defaultsOf ps0 X.env = ([], []))
    (hbind : ∀ (q : Str) (cl : List (Str × Addr)) (pm cv ctv : Value), bindArgs (PySem.W.kla_fn "<lambda>" q ps0 body scope cl pm cv ctv) ⟨[], []⟩ = pure [])
    (hbody : ∀ (A : Around) (outer : List Env) (s : Shared) (H : Hp) (E : XK) (f c' : Addr), Room k (A.deeper (LamX.lamEnv X scope s.heap.objs.size f c')) → PE (LamX.lamCx X A outer s H E scope f c') body (t E))
    (hdb : (x == ("__debug__" : Str)) = false := by decide) (hd : (a == ("__debug__" : Str)) = false := by decide) (hcd : (a == ("__classdict__" : Str)) = false := by decide) :
    PE X (.Call (.Name x p) [.Lambda ps0 body scope lpos] [] pos) (tWord P (X.env.qual ++ "<lambda>") TT t) := by
  refine ⟨fun pins s σ H Q I ⟨old, tab, goal⟩ => wpAny_Call_Name_kw (ld_glob I hg hm ?_ hdb)⟩
  refine PySem.W.callWith_K (h₀ := X.base) I.ok.mod.kin hk ?_ (by rfl) (by rfl)
  show wpAny _ _ (spliced ((false, eval (.Lambda ps0 body scope lpos) X.env) :: backTo pos (starEach [] X.env))) _ _ s
  refine Calls.spliced_cons (lam_new I TB hcode tab hdef (L.has I.ok) fun f c' pmv ctv H1 t1 J stays tab1 atF newF outF atC => Calls.spliced_nil ⟨J.kIn, ?_⟩)
  have ran : codeAny (model X.prog X.w) X.A (.call (.ref g) ⟨[.ref f], []⟩) (CR C8.CX0 X.stack X.prog X.w H1 t1 Q C8.E0) t1 := by
    refine LamX.run_ofS (N := Ng) (ps := [a]) (us := [.ref f]) (vs := [.ref f]) lk hcg Sg hr J.env0 (hb t1 [.ref f] J.kIn rfl) (.cons rfl .nil) rfl fun room => ?_
    obtain ⟨tt, run, ready⟩ := hG f c' t1 H1 Q (fun E H' Q' => t E σ H' Q') (fun W pn xe E p1 p2 tk hW => LamX.pe_act (i := 0) J L atF newF outF (hbind _ _ _ _ _) tk hW room (fun A outer s H r2 => hbody A outer s H E f c' r2) hNg hva hd hcd) atC (goal H1 stays tab1)
    exact ⟨tt, run.nox, ready⟩
  refine wpAny_call (codeAny_mono ran fun r t2 hq => ?_)
  match r, hq with
  | .ok (.ret u), hq => exact J.after hq
  | .ok .next, z => exact z.elim
  | .ok .brk, z => exact z.elim
  | .ok .cont, z => exact z.elim
  | .error _, z => exact (show False from z).elim
end
/-- names on which the table is seen: just these -/
def okTab (s : Sl) (k : Nat) (q : Str) : Bool := s.any (fun v => match v with | .tab i z => decide (i = k) && decide (z = q) | _ => false) && s.all (fun v => match v with | .tab i z => !decide (i = k) || decide (z = q) | _ => true)
section
variable {K : PySem.W.Frag} {mu mu' : Addr → Prop} {H H' : Hp} {p : List Addr} {Z : Par} {M M' : List Addr} {σ : L2.St} {s : Sl} {q : Str}
theorem SlAll.tabAt {k : Nat} : ∀ {σ : L2.St} {s : Sl} {M : List Addr}, SlAll K mu p H σ s M → s.any (fun v => match v with | .tab i z => decide (i = k) && decide (z = q) | _ => false) = true → ∃ P, p[k]? = some P ∧ Tabl H P q (fun c => ¬ mu c)
  | _, _, _, .nil, e => by cases e
  | _, _, _, .dat _ t, e => SlAll.tabAt t (by simpa using e)
  | _, _, _, .no t, e => SlAll.tabAt t (by simpa using e)
  | _, _, _, .rf t, e => SlAll.tabAt t (by simpa using e)
  | _, _, _, .own _ _ _ t, e => SlAll.tabAt t (by simpa using e)
  | _, _, _, .pot _ _ _ t, e => SlAll.tabAt t (by simpa using e)
  | _, _, _, .dic _ _ t, e => SlAll.tabAt t (by simpa using e)
  | _, _, _, .tab (q := z) e0 h d f t, e => by
    rw [List.any_cons, Bool.or_eq_true] at e
    rcases e with e | e
    · rw [Bool.and_eq_true] at e
      have e' : z = q := of_decide_eq_true e.2
      have e2 := of_decide_eq_true e.1
      subst e' e2
      exact ⟨_, e0, _, h, d, f⟩
    · exact SlAll.tabAt t e
theorem SlAll.reTab {j : Nat} {P : Addr} {ps0 : Array Value} (hp : p[j]? = some P) (was : H P = some (.tbl ps0)) (k : ∀ b o, b ≠ P → H b = some o → H' b = some o) (n : ∀ a, a ∈ M' → a ≠ P) (kk : Kp mu H mu H') (now : Tabl H' P q (fun c => ¬ mu c)) (nd : p.Nodup) :
    ∀ {σ : L2.St} {s : Sl} {M : List Addr}, SlAll K mu p H σ s M → (∀ a ∈ M, a ∈ M') → s.all (fun v => match v with | .tab i z => !decide (i = j) || decide (z = q) | _ => true) = true → SlAll K mu p H' σ s M := by
  intro σ s M t
  induction t with
  | nil => intro _ _; exact .nil
  | dat h t ih => intro hs e; exact .dat (h.mono kk) (ih hs (by simpa using e))
  | no t ih => intro hs e; exact .no (ih hs (by simpa using e))
  | rf t ih => intro hs e; exact .rf (ih hs (by simpa using e))
  | own h d m t ih => intro hs e; exact .own (k _ _ (n _ (hs _ List.mem_cons_self)) h) (d.mono kk) m (ih (fun a ha => hs a (List.mem_cons_of_mem _ ha)) (by simpa using e))
  | dic h m t ih => intro hs e; exact .dic (h.mono kk fun o => k _ _ (n _ (hs _ List.mem_cons_self))) m (ih (fun a ha => hs a (List.mem_cons_of_mem _ ha)) (by simpa using e))
  | pot e0 h d t ih =>
    intro hs e
    exact .pot e0 (k _ _ (fun z => by subst z; rw [was] at h; cases h) h) (d.mono kk) (ih hs (by simpa using e))
  | @tab i x a ps z σ s M e0 h d f t ih =>
    intro hs e
    rw [List.all_cons, Bool.and_eq_true, Bool.or_eq_true] at e
    by_cases c : i = j
    · subst c
      have e' : z = q := of_decide_eq_true (e.1.resolve_left (by simp))
      subst e'
      rw [hp] at e0
      cases e0
      obtain ⟨ps, h1, h2, h3⟩ := now
      exact .tab hp h1 h2 h3 (ih hs e.2)
    · have ne : a ≠ P := fun w => c ((List.getElem?_inj (List.getElem?_eq_some_iff.mp e0).1 nd).mp (e0.trans (by rw [w]; exact hp.symm)))
      exact .tab e0 (k _ _ ne h) d (fun pos cv w => let ⟨c, h1, h2, h3⟩ := f pos cv w; ⟨c, h1, (kk _ _ h2 h3).1, (kk _ _ h2 h3).2⟩) (ih hs e.2)
end
/-- what `_law_word` says of how a call ended -/
def dWord (k : Nat) (q : Str) (wd : Option Str → Option Str) (m : List PyData → Option (Rx PyData)) (g : DA) : DE := fun s => if okTab s k q = true then (g s).bind fun p => (m p.1).bind fun r => (wd (match r with
    | .ok _ => none
    | .ex c => some c)).map fun w => (.str w, p.2) else none
def TTw (K : PySem.W.Frag) (nm : List Str) (wd : Option Str → Option Str) : (XK → Hp → VK → Prop) → Hp → VK → Prop := fun tl H Q => ∀ (E' : XK) (Q' : VK),
  (∀ (c w : Str) (H' : Hp), c ∈ nm → wd (some c) = some w → (∀ H'', (∀ a o, H' a = some o → H'' a = some o) → Q (.str w) H'') → E' (.ref (He.ga K c)) none H') →
  (∀ (v : V) (w : Str) (H' : Hp), wd none = some w → (∀ H'', (∀ a o, H' a = some o → H'' a = some o) → Q (.str w) H'') → Q' v H') → tl E' H Q'
/-- the names of the exceptions that may come stand where the head has them -/
def Nmd (K : PySem.W.Frag) (mg : Str → Option Value) (nm : List Str) : Prop := ∀ c ∈ nm, mg c = some (.ref (He.ga K c))
section
variable {X : Cx} {Z : Par} {ga : DA}
theorem lift_word {j : Nat} {P : Addr} {q : Str} {wd : Option Str → Option Str} {m : List PyData → Option (Rx PyData)} {nm : List Str} (hZ : Z.p[j]? = some P) (hn : Nmd X.K X.mg nm) (in_ : ∀ c w, wd (some c) = some w → c ∈ nm) {σ : L2.St} {H : Hp} {Q : VK} (h : lft X.K Z (dWord j q wd m ga) σ H Q) :
    tWord P q (TTw X.K nm wd) (fun E => lftx X.K X.mg Z (fun cls d _ H => E cls d H) (xCall m ga)) σ H Q := by
  obtain ⟨M, s, d, s', rl, hf, k⟩ := h
  unfold dWord at hf
  split at hf
  case isFalse => cases hf
  rename_i ok
  simp only [Option.bind_eq_some_iff, Option.map_eq_some_iff] at hf
  obtain ⟨⟨ds, s1⟩, h1, r, h2, w, h3, h4⟩ := hf
  cases h4
  have hZm := List.mem_of_getElem? hZ
  unfold okTab at ok
  rw [Bool.and_eq_true] at ok
  obtain ⟨P', e, tab⟩ := rl.sl.tabAt ok.1
  rw [hZ] at e
  cases e
  refine ⟨_, tab, fun H1 stays tab1 E' Q' hE hQ => ?_⟩
  obtain ⟨ps0, was, _, _⟩ := tab
  have nM : ∀ a ∈ M, a ≠ P := fun a ha e => (rl.fr a ha).2.1 (by rw [e]; exact hZm)
  have nmu : ∀ a, ¬ Mu Z M a → a ≠ P := fun a n e => n (.inr (.inl (by rw [e]; exact hZm)))
  have kk : Kp (Mu Z M) H (Mu Z M) H1 := fun a o e n => ⟨stays a o (nmu a n) e, n⟩
  have tab2 : Tabl H1 P q (fun c => ¬ Mu Z M c) := by
    obtain ⟨ps, g1, g2, g3⟩ := tab1
    refine ⟨ps, g1, g2, fun pos cv z => ?_⟩
    obtain ⟨c, e1, e2, e3⟩ := g3 pos cv z
    refine ⟨c, e1, e2, e3.elim id fun e0 n => ?_⟩
    obtain ⟨o, e⟩ := rl.muT c n
    rw [e0] at e
    cases e
  have kq : Kq Z M H M H1 := fun a o e n1 n2 => ⟨stays a o (fun z => n1 (by rw [z]; exact hZm)) e, n2⟩
  have there : ∀ a o, H a = some o → ∃ u, H1 a = some u := fun a o e => by
    by_cases z : a = P
    · obtain ⟨ps, g1, _⟩ := tab2
      exact ⟨_, by rw [z]; exact g1⟩
    · exact ⟨o, stays a o z e⟩
  have rl1 : Rel X.K Z M σ H1 s := by
    refine ⟨fun a o e n => stays a o (fun z => n (by rw [z]; exact hZm)) (rl.base a o e n), fun a ha => ?_, fun a ha => let ⟨o, e⟩ := rl.mz a ha; there a o e, fun a ha => let ⟨o, e⟩ := rl.pt a ha; there a o e, ?_⟩
    · obtain ⟨f1, f2, f3, o, f4⟩ := rl.fr a ha
      exact ⟨f1, f2, f3, there a o f4⟩
    · exact SlAll.reTab hZ was stays nM kk tab2 Z.nd rl.sl (fun _ h => h) ok.2
  refine ⟨M, s, _, rl1, by unfold xCall; rw [h1, Option.bind_some, h2, Option.map_some], ?_⟩
  cases r with
  | ok d => exact fun v H2 k2 r2 _ => hQ v w H2 h3 fun H3 g3 => k _ H3 (kq.trans (k2.trans (kq_grow g3))) (r2.grow g3) (.str w)
  | ex c =>
    refine fun C H2 hm k2 r2 => ?_
    have hc := in_ c w h3
    have e := hn c hc
    rw [hm] at e
    cases e
    exact hE c w H2 hc h3 fun H3 g3 => k _ H3 (kq.trans (k2.trans (kq_grow g3))) (r2.grow g3) (.str w)
end
end Dl

/-! ### which exception came: the rules, over trees -/
namespace Dl
open PySem PySem.Spec PyProof.Rows L2
/-- what the head knows of the exceptions that may come (nm), asked by isinstance for these (ts) -/
structure ExF (K : PySem.W.Frag) (mg : Str → Option Value) (nm ts : List Str) : Prop where
  cls : ∀ c ∈ nm, ExcC K (He.ga K c)
  kit : ∀ c ∈ nm, ∀ C ∈ ts, PySem.W.kitOne K (.ref (He.ga K c)) (.ref (He.ga K C)) = some (decide (c = C))
  val : ∀ c ∈ nm, PySem.W.kitOne K (.ref (He.ga K c)) (.type "ValueError") = some true
  top : ∀ c ∈ nm, PySem.W.exmOne K (.ref (He.ga K c)) (.ref (He.ga K "AskError")) = some true
  at_ : ∀ c ∈ ("AskError" : Str) :: (nm ++ ts), mg c = some (.ref (He.ga K c))
  mak : ∀ c ∈ nm, ExcK K mg c
def excCB (K : PySem.W.Frag) (D : Addr) : Bool :=
  decide (PySem.W.findIn K (.ref D) "__getattribute__" = some (some (.builtin "BaseException.__getattribute__"))) && (decide (PySem.W.findIn K (.ref D) "__getattr__" = some none) && (decide (PySem.W.subIn K (.ref D) (.type "BaseException") = some true) && (PySem.W.hasDictIn K D &&
  (decide (PySem.W.findIn K (.ref D) "__class__" = some (some (.builtin "object.__class__"))) && (decide (PySem.W.specialIn K (.builtin "object.__class__") "__get__" = some (some (.builtin "getset_descriptor.__get__"))) && (decide (PySem.W.takesIn K (.builtin "object.__class__") = some true) && decide (PySem.W.mroIn K D (.type "object") = some true)))))))
theorem excCB_ok {K : PySem.W.Frag} {D : Addr} (h : excCB K D = true) : ExcC K D := by
  unfold excCB at h
  simp only [Bool.and_eq_true, decide_eq_true_eq] at h
  obtain ⟨h1, h2, h3, h4, h5, h6, h7, h8⟩ := h
  exact ⟨h1, h2, h3, h4, h5, h6, h7, h8⟩
def exkB (K : PySem.W.Frag) (c : Str) : Bool := (He.Fa.exc c).ok K
def exfB (nm ts : List Str) (K : PySem.W.Frag) : Bool :=
  nm.all (fun c => excCB K (He.ga K c) && (ts.all (fun C => decide (PySem.W.kitOne K (.ref (He.ga K c)) (.ref (He.ga K C)) = some (decide (c = C)))) && (decide (PySem.W.kitOne K (.ref (He.ga K c)) (.type "ValueError") = some true) && (decide (PySem.W.exmOne K (.ref (He.ga K c)) (.ref (He.ga K "AskError")) = some true) && exkB K c)))) &&
  (("AskError" : Str) :: (nm ++ ts)).all fun c => (He.Fa.glo c).ok K
theorem exF_of {K : PySem.W.Frag} {h : Heap} {mg : Str → Option Value} {nm ts : List Str} (X : K.In h) (G : h.Ns mainGlobals mg) (e : exfB nm ts K = true) : ExF K mg nm ts := by
  unfold exfB at e
  rw [Bool.and_eq_true, List.all_eq_true, List.all_eq_true] at e
  obtain ⟨e1, e2⟩ := e
  have at_ : ∀ c ∈ ("AskError" : Str) :: (nm ++ ts), mg c = some (.ref (He.ga K c)) := fun c hc => He.glo_ok X G (e2 c hc)
  have part : ∀ c ∈ nm, ExcC K (He.ga K c) ∧ (∀ C ∈ ts, PySem.W.kitOne K (.ref (He.ga K c)) (.ref (He.ga K C)) = some (decide (c = C))) ∧ PySem.W.kitOne K (.ref (He.ga K c)) (.type "ValueError") = some true ∧ PySem.W.exmOne K (.ref (He.ga K c)) (.ref (He.ga K "AskError")) = some true ∧ exkB K c = true := fun c hc => by
    have q := e1 c hc
    simp only [Bool.and_eq_true, decide_eq_true_eq, List.all_eq_true] at q
    obtain ⟨q1, q2, q3, q4, q5⟩ := q
    exact ⟨excCB_ok q1, q2, q3, q4, q5⟩
  refine ⟨fun c hc => (part c hc).1, fun c hc => (part c hc).2.1, fun c hc => (part c hc).2.2.1, fun c hc => (part c hc).2.2.2.1, at_, fun c hc => ?_⟩
  obtain ⟨q1, q2, q3, q4⟩ := He.exc_ok (show (He.Fa.exc c).ok K = true from (part c hc).2.2.2.2)
  exact ⟨_, at_ c (List.mem_cons_of_mem _ (List.mem_append_left _ hc)), q1, q2, q3, q4⟩
/-- e is None -/
def isNoneD : PyData → Bool
  | .none => true
  | _ => false
def gIsN : PyData → PyData → Option PyData
  | d, .none => some (.bool (isNoneD d))
  | _, _ => none
def gNotN : PyData → PyData → Option PyData
  | d, .none => some (.bool (!isNoneD d))
  | _, _ => none
theorem isNone_dt {K : PySem.W.Frag} {mu : Addr → Prop} {H : Hp} {x : V} {d : PyData} (t : Dt K mu H x d) : decide (x = .non) = isNoneD d := by
  cases t <;> rfl
theorem ok_isN {K : PySem.W.Frag} : OpOk K (fun x y H Q => y = .non ∧ Q (.bl (decide (x = .non))) H) gIsN := fun mu H x y d1 d2 d Q hm t1 t2 e k => by
  unfold gIsN at e
  split at e
  · cases e
    exact ⟨t2.none_, by rw [isNone_dt t1]; exact k _ H (fun _ _ z => z) (.bl _)⟩
  · cases e
theorem ok_notN {K : PySem.W.Frag} : OpOk K (fun x y H Q => y = .non ∧ Q (.bl (!decide (x = .non))) H) gNotN := fun mu H x y d1 d2 d Q hm t1 t2 e k => by
  unfold gNotN at e
  split at e
  · cases e
    exact ⟨t2.none_, by rw [isNone_dt t1]; exact k _ H (fun _ _ z => z) (.bl _)⟩
  · cases e
/-- isinstance of an exception -/
def gIsE (nm : List Str) (C : Str) : PyData → Option PyData
  | .dict [(.none, .str c)] => if c ∈ nm then some (.bool (decide (c = C))) else none
  | _ => none
def gIsEs (nm : List Str) (Cs : List Str) : PyData → Option PyData
  | .dict [(.none, .str c)] => if c ∈ nm then some (.bool (Cs.any fun C => decide (c = C))) else none
  | _ => none
def gIsEV (nm : List Str) : PyData → Option PyData
  | .dict [(.none, .str c)] => if c ∈ nm then some (.bool true) else none
  | _ => none
theorem kv_real {K : PySem.W.Frag} {mu : Addr → Prop} {H : Hp} : ∀ {kvs : List (Key × V)} {ds : List (PyData × PyData)}, DtKv K mu H kvs ds → ∀ p ∈ ds, p.1 ≠ .none
  | _, _, .nil, _, hp => by cases hp
  | _, _, .cons (k := k) h t, p, hp => by
    rcases List.mem_cons.mp hp with e | q
    · rw [e]; exact kD_none k
    · exact kv_real t p q
theorem Dt.excAt {K : PySem.W.Frag} {mu : Addr → Prop} {H : Hp} {v : V} {c : Str} (t : Dt K mu H v (.dict [(.none, .str c)])) : ∃ a, v = .ref a ∧ H a = some (ExZ (He.ga K c) a) := by
  generalize e : PyData.dict [(.none, .str c)] = d at t
  cases t with
  | scr h u => cases e
  | exc h n => cases e; exact ⟨_, rfl, h⟩
  | @dct a kvs ds h n u =>
    injection e with e
    subst e
    exact absurd rfl (kv_real u _ List.mem_cons_self)
  | _ => cases e
/-- isinstance(e, c) of an exception that is read in H -/
def rIsX (K : PySem.W.Frag) : List V → Hp → VK → Prop := fun xs H Q => ∃ (a D : Addr) (c : V) (u : Value) (b : Bool), xs = [.ref a, c] ∧ H a = some (ExZ D a) ∧ ExcC K D ∧ ClsV c u ∧ PySem.W.kitOne K (.ref D) u = some b ∧ Q (.bl b) H
def rIsXs (K : PySem.W.Frag) : List V → Hp → VK → Prop := fun xs H Q => ∃ (a D tp : Addr) (cs : List V) (us : List Value) (b : Bool), xs = [.ref a, .ref tp] ∧ H a = some (ExZ D a) ∧ ExcC K D ∧ H tp = some (.tup cs) ∧ Paired ClsV cs us ∧ PySem.W.kitAny K (.ref D) us = some b ∧ Q (.bl b) H
section
variable {X : Cx}
theorem inst_of {pins : List (Addr × Obj)} {σ : L2.St} {H : Hp} {s : Shared} {a D : Addr} (I : Inv X pins σ H s) (h : H a = some (ExZ D a)) : ∃ oe, PySem.W.InstAt s.heap a oe D none := by
  obtain ⟨⟨oe, e, z, vs, d⟩, _, _⟩ := I.hok a _ h
  obtain ⟨oc, od, oda, osl⟩ := oe
  obtain ⟨z1, z2⟩ := z
  dsimp only at z1 z2 d
  subst z1 z2 d
  exact ⟨_, e, rfl, rfl, trivial⟩
theorem call_isX : CallR X (.builtin "isinstance") (rIsX X.K) := by
  intro pins s σ H xs us Q I r h
  obtain ⟨a, D, c, u, b, rfl, hD, C, k, e, q⟩ := h
  obtain ⟨u1, u2, rfl, r1, r2⟩ := vals2 r
  obtain rfl : u1 = .ref a := r1
  have e2 := k.eq r2
  subst e2
  obtain ⟨oe, J⟩ := inst_of I hD
  exact PySem.W.kia_one (PySem.W.handS_kitx_exc C.hg C.hk C.hs C.hd C.ha C.hn C.ht C.hm) I.kIn J e (fun z => nomatch z) fun tk => ⟨.bl b, H, I.tok tk, rfl, q⟩
theorem call_isXs : CallR X (.builtin "isinstance") (rIsXs X.K) := by
  intro pins s σ H xs us Q I r h
  obtain ⟨a, D, tp, cs, ws, b, rfl, hD, C, hT, k, e, q⟩ := h
  obtain ⟨u1, u2, rfl, r1, r2⟩ := vals2 r
  obtain rfl : u1 = .ref a := r1
  obtain rfl : u2 = .ref tp := r2
  obtain ⟨oe, J⟩ := inst_of I hD
  obtain ⟨_, its, rv, o, h1, h2, n, h3⟩ := (show ObjOk X.prog X.w H s.heap tp (.tup cs) from I.hok tp _ hT)
  have e3 := ClsV.all k rv
  subst e3
  obtain ⟨oc, od, dt, sl⟩ := o
  simp only at h2 h3
  subst h2 h3
  exact PySem.W.kia_tup (PySem.W.handS_kitx_exc C.hg C.hk C.hs C.hd C.ha C.hn C.ht C.hm) I.kIn J h1 e (fun z => nomatch z) fun tk => ⟨.bl b, H, I.tok tk, rfl, q⟩
end
section
variable {X : Cx} {Z : Par} {a b e : Expr} {es : List Expr} {pos : Pos} {fa fb : DE} {nm ts : List Str}
theorem disX {x C : Str} {p p2 : Pos} (Fx : ExF X.K X.mg nm ts) (hC : C ∈ ts) (hg : Gl X x) (hm : X.mg x = none) (hv : bootBuiltins x = some (.builtin "isinstance")) (hg2 : Gl X C) (ha : PE X e (lft X.K Z fa)) (hn : x ≠ "__name__" := by decide) (hdb : (x == ("__debug__" : Str)) = false := by decide) (hdb2 : (C == ("__debug__" : Str)) = false := by decide)
    (he : starEach [e, .Name C p2] X.env = (false, eval e X.env) :: starEach [.Name C p2] X.env := by rfl) (he2 : starEach [.Name C p2] X.env = (false, eval (.Name C p2) X.env) :: starEach [] X.env := by rfl) (hpl : (backTo pos (starEach [.Name C p2] X.env)).any (·.1) = false := by rfl) :
    PE X (.Call (.Name x p) [e, .Name C p2] [] pos) (lft X.K Z (dUn (gIsE nm C) fa)) := PEimp (pe_callB call_isX hg hm hv (pa_cons ha (pa_cons (pe_glob (v := .ref (He.ga X.K C)) hg2 (Fx.at_ C (List.mem_cons_of_mem _ (List.mem_append_right _ hC))) rfl hdb2) pa_nil he2) he) hn hdb he hpl) fun σ H Q h => by
  obtain ⟨M, s, d, s', rl, hf, k⟩ := h
  obtain ⟨d1, h1, h3⟩ := dUn_some hf
  refine ⟨M, s, d1, s', rl, h1, fun v H1 k1 r1 t1 => ?_⟩
  unfold gIsE at h3
  split at h3
  · split at h3
    · rename_i c hc
      cases h3
      obtain ⟨a, rfl, ha⟩ := t1.excAt
      exact ⟨a, _, .ref (He.ga X.K C), _, _, rfl, ha, Fx.cls c hc, .own _, Fx.kit c hc C hC, k _ H1 k1 r1 (.bl _)⟩
    · cases h3
  · cases h3
theorem disV {x C : Str} {p p2 : Pos} (Fx : ExF X.K X.mg nm ts) (hg : Gl X x) (hm : X.mg x = none) (hv : bootBuiltins x = some (.builtin "isinstance")) (hg2 : Gl X C) (hm2 : X.mg C = none) (hv2 : bootBuiltins C = some (.type "ValueError")) (ha : PE X e (lft X.K Z fa)) (hn : x ≠ "__name__" := by decide) (hn2 : C ≠ "__name__" := by decide) (hdb : (x == ("__debug__" : Str)) = false := by decide) (hdb2 : (C == ("__debug__" : Str)) = false := by decide)
    (he : starEach [e, .Name C p2] X.env = (false, eval e X.env) :: starEach [.Name C p2] X.env := by rfl) (he2 : starEach [.Name C p2] X.env = (false, eval (.Name C p2) X.env) :: starEach [] X.env := by rfl) (hpl : (backTo pos (starEach [.Name C p2] X.env)).any (·.1) = false := by rfl) :
    PE X (.Call (.Name x p) [e, .Name C p2] [] pos) (lft X.K Z (dUn (gIsEV nm) fa)) := PEimp (pe_callB call_isX hg hm hv (pa_cons ha (pa_cons (pe_bltn (v := .ty "ValueError") hg2 hm2 hv2 rfl hn2 hdb2) pa_nil he2) he) hn hdb he hpl) fun σ H Q h => by
  obtain ⟨M, s, d, s', rl, hf, k⟩ := h
  obtain ⟨d1, h1, h3⟩ := dUn_some hf
  refine ⟨M, s, d1, s', rl, h1, fun v H1 k1 r1 t1 => ?_⟩
  unfold gIsEV at h3
  split at h3
  · split at h3
    · rename_i c hc
      cases h3
      obtain ⟨a, rfl, ha⟩ := t1.excAt
      exact ⟨a, _, .ty "ValueError", _, _, rfl, ha, Fx.cls c hc, .ty _, Fx.val c hc, k _ H1 k1 r1 (.bl _)⟩
    · cases h3
  · cases h3
/-- the classes written in a tuple -/
structure ClsArgs (X : Cx) (es : List Expr) (Cs : List Str) : Prop where
  pa : PA X es (fun σ H Q => Q (Cs.map fun C => V.ref (He.ga X.K C)) H)
theorem clsNil : ClsArgs X [] [] := ⟨pa_nil⟩
theorem clsCons {C : Str} {Cs : List Str} {p2 : Pos} (hm : X.mg C = some (.ref (He.ga X.K C))) (hg2 : Gl X C) (r : ClsArgs X es Cs) (hdb2 : (C == ("__debug__" : Str)) = false := by decide) (hs : starEach (.Name C p2 :: es) X.env = (false, eval (.Name C p2) X.env) :: starEach es X.env := by rfl) : ClsArgs X (.Name C p2 :: es) (C :: Cs) :=
  ⟨PAimp (pa_cons (pe_glob (v := .ref (He.ga X.K C)) hg2 hm rfl hdb2) r.pa hs) fun _ _ _ h => h⟩
theorem kitAny_of {K : PySem.W.Frag} {t : Value} {c : Str} : ∀ {Cs : List Str}, (∀ C ∈ Cs, PySem.W.kitOne K t (.ref (He.ga K C)) = some (decide (c = C))) → PySem.W.kitAny K t (Cs.map fun C => .ref (He.ga K C)) = some (Cs.any fun C => decide (c = C))
  | [], _ => rfl
  | C :: r, h => by
    have e := h C List.mem_cons_self
    have ih := kitAny_of (Cs := r) fun D hD => h D (List.mem_cons_of_mem _ hD)
    rw [List.map_cons, List.any_cons]
    unfold PySem.W.kitAny
    rw [e]
    by_cases q : c = C
    · simp [q]
    · simp only [q, decide_false, Bool.false_or]
      exact ih
theorem clsPaired {K : PySem.W.Frag} : ∀ Cs : List Str, Paired ClsV (Cs.map fun C => V.ref (He.ga K C)) (Cs.map fun C => Value.ref (He.ga K C))
  | [] => .nil
  | C :: r => .cons (.own _) (clsPaired r)
theorem disXs {x : Str} {Cs : List Str} {p p2 : Pos} {x1} (Fx : ExF X.K X.mg nm ts) (hC : ∀ C ∈ Cs, C ∈ ts) (few : Cs.length ≤ 1000) (hg : Gl X x) (hm : X.mg x = none) (hv : bootBuiltins x = some (.builtin "isinstance")) (hcs : ClsArgs X es Cs) (ha : PE X e (lft X.K Z fa)) (hn : x ≠ "__name__" := by decide) (hdb : (x == ("__debug__" : Str)) = false := by decide)
    (he : starEach [e, .Tuple es x1 p2] X.env = (false, eval e X.env) :: starEach [.Tuple es x1 p2] X.env := by rfl) (he2 : starEach [.Tuple es x1 p2] X.env = (false, eval (.Tuple es x1 p2) X.env) :: starEach [] X.env := by rfl) (hpl : (backTo pos (starEach [.Tuple es x1 p2] X.env)).any (·.1) = false := by rfl) :
    PE X (.Call (.Name x p) [e, .Tuple es x1 p2] [] pos) (lft X.K Z (dUn (gIsEs nm Cs) fa)) := PEimp (pe_callB call_isXs hg hm hv (pa_cons ha (pa_cons (pe_tup hcs.pa) pa_nil he2) he) hn hdb he hpl) fun σ H Q h => by
  obtain ⟨M, s, d, s', rl, hf, k⟩ := h
  obtain ⟨d1, h1, h3⟩ := dUn_some hf
  refine ⟨M, s, d1, s', rl, h1, fun v H1 k1 r1 t1 => ⟨by rw [List.length_map]; exact Nat.le_trans few (by decide), fun tp new => ?_⟩⟩
  unfold gIsEs at h3
  split at h3
  · split at h3
    · rename_i c hc
      cases h3
      obtain ⟨a, rfl, ha⟩ := t1.excAt
      refine ⟨a, _, tp, _, _, _, rfl, grow_new new _ _ ha, Fx.cls c hc, upd_same, clsPaired Cs, kitAny_of fun C hC' => Fx.kit c hc C (hC C hC'), ?_⟩
      exact k _ _ (k1.trans (kq_grow (grow_new new))) (r1.grow (grow_new new)) (.bl _)
    · cases h3
  · cases h3
end
/-! #### list.count, list.index of texts, numbers, truths -/
def gCount : PyData → PyData → Option PyData
  | .list ds, d => if ds.all scalD = true ∧ scalD d = true then some (.int (ds.countP fun z => PyData.eqv z d : Nat)) else none
  | _, _ => none
def gIndex : PyData → PyData → Option PyData
  | .list ds, d => if ds.all scalD = true ∧ scalD d = true then (ds.findIdx? fun z => PyData.eqv z d).map fun j => .int (j : Nat) else none
  | _, _ => none
def rCountF (K : PySem.W.Frag) : V → List V → Hp → VK → Prop := fun x xs H Q => ∃ (a : Addr) (ys : List V) (y : V), x = V.ref a ∧ xs = [y] ∧ SqL K H a ys ∧ flatV y = true ∧ ys.all flatV = true ∧ Q (.int (ys.countP fun z => eqV z y : Nat)) H
theorem countP_eqU {x : V} : ∀ {xs : List V} {us : List Value}, Vals xs us → xs.all flatV = true → us.countP (eqU x) = xs.countP fun z => eqV z x
  | _, _, .nil, _ => rfl
  | y :: xs, u :: us, .cons r t, f => by
    rw [List.all_cons, Bool.and_eq_true] at f
    rw [List.countP_cons, List.countP_cons, eqU_of r f.1, countP_eqU t f.2]
theorem mt_countF {X : Cx} : MtR X "list.count" (rCountF X.K) := by
  intro pins s σ H x xs v us Q I rx rxs h
  obtain ⟨a, ys, y, rfl, rfl, hs, fy, fys, q⟩ := h
  cases rx
  obtain ⟨u, rfl, ru⟩ := rxs.one
  obtain ⟨its, rv, ⟨⟨cls, dd, data, sl⟩, n, ho, hc, hdn, hd⟩, hlen⟩ := I.list hs
  simp only at hc hd
  subst hc hd
  refine call_meets PySem.F.slot_list_count ⟨_, ho, rfl⟩ PySem.F.entry_list_count (PySem.F.args_list_count_2 _ _)
    (SeqAt.list_countAt a its.toArray n dd sl u (eqU y)) ⟨ho, fun u' hu' => mem_eqAt ru fy rv fys u' (by simpa using hu'), ?_⟩
  have ec : its.toArray.toList.countP (eqU y) = ys.countP fun z => eqV z y := countP_eqU rv fys
  refine ⟨.int (ys.countP fun z => eqV z y : Nat), H, I.tok _, ⟨s.toks, ?_⟩, q⟩
  rw [ec]
theorem countP_dt {K : PySem.W.Frag} {mu : Addr → Prop} {H : Hp} {y : V} {d : PyData} (t : Dt K mu H y d) (hd : scalD d = true) : ∀ {vs : List V} {ds : List PyData}, DtAll K mu H vs ds → ds.all scalD = true → (vs.countP fun z => eqV z y) = ds.countP fun z => PyData.eqv z d
  | _, _, .nil, _ => rfl
  | _, _, .cons u r, f => by
    rw [List.all_cons, Bool.and_eq_true] at f
    rw [List.countP_cons, List.countP_cons, scal_eq u t f.1 hd, countP_dt t hd r f.2]
section
variable {X : Cx} {Z : Par} {o e : Expr} {fo fe : DE} {name : Str} {apos cpos : Pos}
/-- o.m(e), o a list -/
theorem dmL {id : String} {r : V → List V → Hp → VK → Prop} {g : PyData → PyData → Option PyData} (slot : Slot "list" name id) (hty : typeOf (.builtin id) = pure (.type "method_descriptor")) (hm : MtR X id r) (isL : ∀ d1 d2 d, g d1 d2 = some d → ∃ ds, d1 = .list ds)
    (ok : ∀ (mu : Addr → Prop) (H : Hp) (x y : V) (d1 d2 d : PyData) (Q : VK), Dt X.K mu H x d1 → Dt X.K mu H y d2 → g d1 d2 = some d → (∀ v, Dt X.K mu H v d → Q v H) → r x [y] H Q) (ho : PE X o (lft X.K Z fo)) (ha : PE X e (lft X.K Z fe))
    (hbase : attributeBase o name X.env (eval o X.env) = eval o X.env := by rfl)
    (hfew : ((backTo cpos (starEach [e] X.env)).all (fun x => !x.1) && (backToKw cpos (keywordEach [] X.env)).all (fun x => x.1.isSome)
      && decide ([e].length + ([] : List Keyword).length + (if ([] : List Keyword).isEmpty then 0 else 1) < 30)) = true := by rfl)
    (hline : (apos.endLine == cpos.line) = true := by rfl) (hs : starEach [e] X.env = (false, eval e X.env) :: starEach [] X.env := by rfl) (hplain : (backTo cpos (starEach [] X.env)).any (·.1) = false := by rfl) :
    PE X (.Call (.Attribute o name apos) [e] [] cpos) (lft X.K Z (dOp g fo fe)) := PEimp (pe_bm PySem.F.plainAttrs_list slot hty hm ho (pa_cons ha pa_nil hs) hbase hfew hline hs hplain) fun σ H Q h => by
  obtain ⟨M, s, d, s', rl, hf, k⟩ := h
  obtain ⟨d1, s1, d2, h1, h2, h3⟩ := dOp_some hf
  obtain ⟨ds, rfl⟩ := isL _ _ _ h3
  refine ⟨M, s, _, s1, rl, h1, fun x H1 k1 r1 t1 => ?_⟩
  obtain ⟨a, xs, rfl, q1, q2⟩ := t1.list
  refine ⟨.inl ⟨rfl, xs, q1⟩, M, s1, d2, s', r1, h2, fun y H2 k2 r2 t2 => ?_⟩
  exact ok (Mu Z M) H2 (.ref a) y _ d2 d Q (t1.mono k2.kp) t2 h3 fun v t3 => k v H2 (k1.trans k2) r2 t3
theorem dcount (ho : PE X o (lft X.K Z fo)) (ha : PE X e (lft X.K Z fe)) (hbase : attributeBase o "count" X.env (eval o X.env) = eval o X.env := by rfl)
    (hfew : ((backTo cpos (starEach [e] X.env)).all (fun x => !x.1) && (backToKw cpos (keywordEach [] X.env)).all (fun x => x.1.isSome)
      && decide ([e].length + ([] : List Keyword).length + (if ([] : List Keyword).isEmpty then 0 else 1) < 30)) = true := by rfl)
    (hline : (apos.endLine == cpos.line) = true := by rfl) (hs : starEach [e] X.env = (false, eval e X.env) :: starEach [] X.env := by rfl) (hplain : (backTo cpos (starEach [] X.env)).any (·.1) = false := by rfl) :
    PE X (.Call (.Attribute o "count" apos) [e] [] cpos) (lft X.K Z (dOp gCount fo fe)) :=
  dmL PySem.F.slot_list_count PySem.F.type_list_count mt_countF (fun d1 d2 d h => by unfold gCount at h; split at h; exact ⟨_, rfl⟩; cases h) (fun mu H x y d1 d2 d Q t1 t2 h k => by
    unfold gCount at h
    split at h
    · split at h
      · rename_i c
        cases h
        obtain ⟨a, xs, rfl, q1, q2⟩ := t1.list
        refine ⟨a, xs, y, rfl, rfl, q1, scal_v t2 c.2, scal_vs q2 c.1, ?_⟩
        rw [countP_dt t2 c.2 q2 c.1]
        exact k _ (.int _)
      · cases h
    · cases h) ho ha hbase hfew hline hs hplain
theorem eqv_get {K : PySem.W.Frag} {mu : Addr → Prop} {H : Hp} {vs : List V} {ds : List PyData} (t : DtAll K mu H vs ds) (f : ds.all scalD = true) {m : Nat} {z : V} (h : vs[m]? = some z) : ∃ d, ds[m]? = some d ∧ Dt K mu H z d ∧ scalD d = true := by
  obtain ⟨d, e, u⟩ := t.getv h
  exact ⟨d, e, u, List.all_eq_true.mp f d (List.mem_of_getElem? e)⟩
theorem gIndex_some {d1 d2 d : PyData} (h : gIndex d1 d2 = some d) : ∃ (ds : List PyData) (j : Nat), d1 = .list ds ∧ ds.all scalD = true ∧ scalD d2 = true ∧ (ds.findIdx? fun z => PyData.eqv z d2) = some j ∧ d = .int (j : Nat) := by
  cases d1 with
  | list ds =>
    unfold gIndex at h
    dsimp only at h
    split at h
    · rename_i c
      simp only [Option.map_eq_some_iff] at h
      obtain ⟨j, h1, h2⟩ := h
      exact ⟨ds, j, rfl, c.1, c.2, h1, h2.symm⟩
    · cases h
  | _ => cases h
theorem dindex (ho : PE X o (lft X.K Z fo)) (ha : PE X e (lft X.K Z fe)) (hbase : attributeBase o "index" X.env (eval o X.env) = eval o X.env := by rfl)
    (hfew : ((backTo cpos (starEach [e] X.env)).all (fun x => !x.1) && (backToKw cpos (keywordEach [] X.env)).all (fun x => x.1.isSome)
      && decide ([e].length + ([] : List Keyword).length + (if ([] : List Keyword).isEmpty then 0 else 1) < 30)) = true := by rfl)
    (hline : (apos.endLine == cpos.line) = true := by rfl) (hs : starEach [e] X.env = (false, eval e X.env) :: starEach [] X.env := by rfl) (hplain : (backTo cpos (starEach [] X.env)).any (·.1) = false := by rfl) :
    PE X (.Call (.Attribute o "index" apos) [e] [] cpos) (lft X.K Z (dOp gIndex fo fe)) :=
  dmL PySem.F.slot_list_index PySem.F.type_list_index mt_index (fun d1 d2 d h => by unfold gIndex at h; split at h; exact ⟨_, rfl⟩; cases h) (fun mu H x y d1 d2 d Q t1 t2 h k => by
    obtain ⟨ds, j, rfl, c1, c2, h1, rfl⟩ := gIndex_some h
    obtain ⟨a, xs, rfl, q1, q2⟩ := t1.list
    have c : ds.all scalD = true ∧ scalD d2 = true := ⟨c1, c2⟩
    rw [List.findIdx?_eq_some_iff_getElem] at h1
    obtain ⟨hj, e1, e2⟩ := h1
    obtain ⟨z, g1, g2⟩ := q2.get (List.getElem?_eq_getElem hj)
    have sc : scalD ds[j] = true := List.all_eq_true.mp c.1 _ (List.getElem_mem hj)
    refine ⟨a, xs, y, j, z, rfl, rfl, q1, scal_v t2 c.2, scal_vs q2 c.1, g1, ?_, fun m z' hm hz => ?_, k _ (.int _)⟩
    · rw [scal_eq g2 t2 sc c.2]; exact e1
    · obtain ⟨d', f1, f2, f3⟩ := eqv_get q2 c.1 hz
      rw [scal_eq f2 t2 f3 c.2]
      obtain ⟨hm', rfl⟩ := List.getElem?_eq_some_iff.mp f1
      exact Bool.eq_false_iff.mpr (e2 m hm)) ho ha hbase hfew hline hs hplain
end
end Dl

/-! ### the def that tells which exception came; the law's end with a table of code objects -/
namespace Dl
open PySem PySem.Spec PyProof.Rows L2
theorem slAll_rest {K : PySem.W.Frag} {mu : Addr → Prop} {q : List Addr} {H : Hp} : ∀ {σ : L2.St} {n : Nat}, σ.length = n → SlAll K mu q H σ (List.replicate n .no) []
  | [], 0, _ => .nil
  | x :: σ, n + 1, e => .no (slAll_rest (by simpa using e))
def caught : Option Str → PyData
  | none => .none
  | some c => excD c
/-- a body behind the try: its meaning at the slot of what was caught -/
def wordAt (n : Nat) (b : DS) (oc : Option Str) : Option Str := match b (.no :: .dat (caught oc) :: List.replicate n .no) with
  | some (.rt (.str w) _) => some w
  | _ => none
def wordOf (nm : List Str) (n : Nat) (b : DS) (oc : Option Str) : Option Str := match oc with
  | none => wordAt n b none
  | some c => if c ∈ nm then wordAt n b (some c) else none
theorem wordAt_some {n : Nat} {b : DS} {oc : Option Str} {w : Str} (h : wordAt n b oc = some w) : ∃ s', b (.no :: .dat (caught oc) :: List.replicate n .no) = some (.rt (.str w) s') := by
  unfold wordAt at h
  split at h
  · rename_i w' s' e
    cases h
    exact ⟨s', e⟩
  · cases h
theorem word_ready {K : PySem.W.Frag} {n : Nat} {b : DS} {oc : Option Str} {w : Str} (h : wordAt n b oc = some w) {σ : L2.St} {x v : Option V} {y : V} {H : Hp} {Q : VK} (len : σ.length = n) (t : ∀ mu : Addr → Prop, (∀ a, ¬ mu a) → Dt K mu H y (caught oc))
    (q : ∀ H'', (∀ a o, H a = some o → H'' a = some o) → Q (.str w) H'') (E : L2.St → Hp → Prop) : ∃ Z, lfS K Z b { nx := E, rt := Q } (x :: some y :: σ) H := by
  obtain ⟨s', e⟩ := wordAt_some h
  refine ⟨⟨H, [], fun _ => False, .nil⟩, [], _, _, ⟨fun a o z _ => z, fun _ z => (by cases z), fun _ z => z.elim, fun _ z => (by cases z), .no (.dat (t _ fun a z => ?_) (slAll_rest len))⟩, e, fun M σ' H' u k r tu => ?_⟩
  · rcases z with z | z | z
    · exact z
    · cases z
    · cases z
  · rw [tu.text]
    exact q H' fun a o z => r.base a o z fun w => by cases w
section
variable {X : Cx}
theorem word_gives {Ng more : List Str} {x a y n z q : Str} {sg : Scope} {g : Addr} {cdg : Value} {bg rest : List Stmt} {nm ts : List Str} {b : DS} {j : Nat} {py py2 p0 pa pa2 p1 p2 p3 np pn pos pos' : Pos}
    (hN : Ng = a :: y :: n :: more) (nd : Ng.Nodup) (Fx : ExF X.K X.mg nm ts) (hz : z = "AskError")
    (hbg : bg = .Assign [.Name y py] (.Constant .none j p0) pa :: .Try [.Expr (.Call (.Name a p1) [] [] p2) p3] [.ExceptHandler (some (.Name z np)) (some n) [.Assign [.Name y py2] (.Name n pn) pa2] pos'] [] [] pos :: rest)
    (ly : sg.names.lookup y = some .local) (ln : sg.names.lookup n = some .local) (la : Vis sg a) (gz : sg.names.lookup z = some .globalImplicit)
    (sw1 : ∀ (C : Cx), C.env.scope = sg → C.N = Ng → swapsWith (.Constant .none j p0) (some (.Name y py)) pa.line C.env = pure false) (sw2 : ∀ (C : Cx), C.env.scope = sg → swapsWith (.Name n pn) (some (.Name y py2)) pa2.line C.env = pure false) (sw3 : ∀ (C : Cx), C.env.scope = sg → swapsWith (.Call (.Name a p1) [] [] p2) none p3.line C.env = pure false)
    (dn1 : (n == ("__debug__" : Str)) = false) (dn2 : (n == ("__classdict__" : Str)) = false)
    (hrest : ∀ (f : Addr) (s : Shared) (H : Hp) (Z : Par), PSs (cxOf C8.CX0 X.prog X.w X.K X.mg X.base Ng x sg g cdg X.A X.stack s H C8.E0).nox rest (lfS X.K Z b)) :
    LamX.GivesTo X Ng x sg g cdg bg a q (TTw X.K nm (wordOf nm (more.length + 1) b)) := by
  intro f c' s H Q tl act hc h
  subst hbg hN hz
  have gl : Gl (cxOf C8.CX0 X.prog X.w X.K X.mg X.base (a :: y :: n :: more) x sg g cdg X.A X.stack s H C8.E0).nox "AskError" := gz
  refine ⟨_, pss_cons (ps_set (i := 1) nd rfl (.inl ly) pe_non (sw1 _ rfl rfl) (.inr ly)) (pss_cons (ps_try_keep (X := (cxOf C8.CX0 X.prog X.w X.K X.mg X.base (a :: y :: n :: more) x sg g cdg X.A X.stack s H C8.E0).nox) (i := 2) (j := 1) (c := .ref (He.ga X.K "AskError"))
      (tb := fun W D σ H => ∃ Ech : XK, (∀ cls d σ' H', Ech cls d H' → W cls d σ' H') ∧ σ[0]? = some (some (.ref f)) ∧ H c' = some (LamX.CodeO c' q) ∧ tl Ech H (fun _ H' => D.nx σ H'))
      rfl rfl rfl nd rfl (by exact ln) rfl (.inl ly) ⟨gl, by decide, .inl (Fx.at_ _ List.mem_cons_self)⟩ (fun W pl xe tk _ => ?_) (fun ae oe pl => pss_one (PSimp (ps_set (i := 1) nd rfl (.inl ly) (pe_var (i := 2) rfl (.inl ln) ?_ ?_) (sw2 _ rfl) (.inr ly)) fun D σ H h => ?_)) ?_)
      (u := fun D σ H => ∃ Z, lfS X.K Z b D σ H) ⟨fun pins s' σ H' D I ⟨Z, r⟩ => (hrest f s H Z).run pins s' σ H' D I r⟩), ?_⟩
  · refine pss_one ⟨fun pins s' σ H' D I h' => ?_⟩
    obtain ⟨Ech, hW, h1, h2, h3⟩ := h'
    exact (ps_expr (pos := p3) (act W pl xe Ech p1 p2 tk hW) (sw3 _ rfl)).run pins s' σ H' D I ⟨h1, h2, h3⟩
  · exact dn1
  · exact dn2
  · exact h
  · show 2 < (a :: y :: n :: more).length
    simp
  · refine ⟨fun cls d H' => ∃ c w, c ∈ nm ∧ cls = .ref (He.ga X.K c) ∧ d = none ∧ wordOf nm (more.length + 1) b (some c) = some w ∧ ∀ H'', (∀ a o, H' a = some o → H'' a = some o) → Q (.str w) H'', fun cls d σ' H' hE => ?_, rfl, hc, h _ _ (fun c w H' hc hw hq => ⟨c, w, hc, rfl, rfl, hw, hq⟩) (fun v w H' hw hq => ?_)⟩
    · obtain ⟨c, w, hcn, rfl, rfl, hw, hq⟩ := hE
      refine ⟨_, rfl, rfl, Fx.top c hcn, fun len ae na => ?_⟩
      have len : σ'.length = (a :: y :: n :: more).length := len
      match σ', len with
      | o0 :: o1 :: o2 :: r, len =>
        have len' : r.length = more.length := by simpa using len
        have hw' : wordAt (more.length + 1) b (some c) = some w := by
          have h2 : (if c ∈ nm then wordAt (more.length + 1) b (some c) else none) = some w := hw
          rw [if_pos hcn] at h2
          exact h2
        exact word_ready (v := none) (x := o0) (y := .ref ae) (σ := none :: r) hw' (by rw [List.length_cons, len']) (fun mu n => .exc upd_same (n ae)) (fun H'' g => hq H'' fun b o e => g b o (grow_new na b o e)) _
    · exact word_ready (v := none) (x := some (.ref f)) (y := .non) (σ := none :: List.replicate more.length none) hw (by simp) (fun mu n => .non) hq _
end
/-- x(lambda: f(..)), x the def that tells which exception came -/
theorem dword {X : Cx} {Z : Par} {ga : DA} {x a q : Str} {st : Stmt} {Ng : List Str} {nm : List Str} {wd : Option Str → Option Str} {m : List PyData → Option (Rx PyData)} {c P : Addr} {j k : Nat} {ps0 : Arguments} {body : Expr} {scope : Scope} {p lpos pos : Pos}
    (F : Std X.K X.mg x st [a]) (Sg : FnScope Ng [a] (defScope st)) (hNg : Ng[0]? = some a) (hva : Vis (defScope st) a) (hG : ∀ (g : Addr) (cdv : Value), LamX.GivesTo X Ng x (defScope st) g cdv (defBody st) a (X.env.qual ++ "<lambda>") (TTw X.K nm wd))
    (TB : LamX.TabB X.base X.mg c P) (hcode : X.env.code = .ref c) (hZ : Z.p[j]? = some P) (hq : q = X.env.qual ++ "<lambda>") (hr : Room (k + 2) X.A) (hn : Nmd X.K X.mg nm) (in_ : ∀ c w, wd (some c) = some w → c ∈ nm) (hg : Gl X x)
    (L : LamX.LamS X.env.scope scope) (hbody : ∀ (A : Around) (outer : List Env) (s : Shared) (H : Hp) (E : XK) (f c' : Addr), Room k (A.deeper (LamX.lamEnv X scope s.heap.objs.size f c')) → PE (LamX.lamCx X A outer s H E scope f c') body (lftx X.K X.mg Z (fun cls d _ H => E cls d H) (xCall m ga)))
    (hdef : defaultsOf ps0 X.env = ([], []) := by rfl) (hbind : ∀ (q : Str) (cl : List (Str × Addr)) (pm cv ctv : Value), bindArgs (PySem.W.kla_fn "<lambda>" q ps0 body scope cl pm cv ctv) ⟨[], []⟩ = pure [] := by intro _ _ _ _ _; rfl)
    (hdb : (x == ("__debug__" : Str)) = false := by decide) (hd : (a == ("__debug__" : Str)) = false := by decide) (hcd : (a == ("__classdict__" : Str)) = false := by decide) :
    PE X (.Call (.Name x p) [.Lambda ps0 body scope lpos] [] pos) (lft X.K Z (dWord j q wd m ga)) := by
  obtain ⟨g, fd, F, hm, hb⟩ := F
  obtain ⟨⟨oc, od, kV, doc, pm, an, cdv, ct, osl, e1, lk, hcd2⟩, kp⟩ := F
  subst e1 hq
  exact PEimp (pe_word hg hm kp lk hcd2 hb Sg hNg hva (hG g cdv) TB hcode hr L hdef hbind hbody hdb hd hcd) fun _ _ _ h => lift_word hZ hn in_ h
/-! #### the law's end -/
def startT (N : List Str) (q : Str) (ds : List PyData) : Sl := ds.map SV.dat ++ (List.replicate (N.length - 1 - ds.length) .no ++ [.tab 0 q])
def fnT (N : List Str) (q : Str) (n : Nat) (b : DS) : List PyData → Option PyData := fun ds => if ds.length = n then outP (b (startT N q ds)) else none
section
variable {P : Program} {w : World} {K : PySem.W.Frag} {mg mb : Str → Option Value}
theorem slAll_tab {mu : Addr → Prop} {q : Str} {H : Hp} {T : Addr} (h : H T = some (.tbl #[])) : ∀ n : Nat, SlAll K mu [T] H (List.replicate (n + 1) none) (List.replicate n .no ++ [.tab 0 q]) []
  | 0 => .tab rfl h trivial (fun pos cv z => by
      have z' : codeAmong pos [] = some cv := z
      simp [codeAmong] at z') .nil
  | n + 1 => .no (slAll_tab h n)
theorem law_hereT {x p q : Str} {st : Stmt} {fa a c T : Addr} {fd : FuncData} {N : List Str} {k : Nat} {b : DS} {s₁ : Shared} {vs : List Value} {ns : List Int}
    (KX : K.In s₁.heap) (hns : s₁.heap.Ns mainGlobals mg) (hbl : s₁.heap.Ns builtinsNs mb) (hbb : ∀ y : Str, y ≠ "__name__" → mb y = bootBuiltins y) (hlim : s₁.heap.NoLimit) (hmo : ∃ mm, s₁.heap.Ns sysModules mm) (hg : s₁.gens = #[])
    (ha : s₁.heap.get? a = some { cls := .type "list", data := .seq vs.toArray }) (hi : IntsAre vs ns) (few : ns.length ≤ sizeLine) (room : Room (k + 1) callerA) (F : Fun K x x st fa fd) (S : FnScope N [p] (defScope st)) (bt : ∀ (s : Shared) (u : Value), BindsTo s fd ⟨[u], []⟩ [(p, u)])
    (hT : s₁.heap.get? T = some { cls := .none, data := .fields #[] }) (nT : K.lookup T = none) (C : PySem.W.CodeHd s₁.heap c T) (hcd : fd.code = .ref c)
    (hbm : ∃ (bm : Addr) (ob : Obj), mg "__builtins__" = some (.ref bm) ∧ bm ≠ builtinsNs ∧ s₁.heap.get? bm = some ob ∧ ob.cls = .type "module" ∧ ob.dict = some builtinsNs ∧ ob.data = .plain) (len2 : 2 ≤ N.length)
    (body : ∀ (base : Heap) (s : Shared) (H : Hp) (Z : Par), Mod K mg base → Room k (callerA.deeper (envOfC x (defScope st) s.heap.objs.size fa (.ref c))) → CG (cxOf CX0 P w K mg base N x (defScope st) fa (.ref c) callerA [] s H E0).nox → LamX.TabB base mg c T → Z.p[0]? = some T →
      PSs (cxOf CX0 P w K mg base N x (defScope st) fa (.ref c) callerA [] s H E0).nox (defBody st) (lfS K Z b))
    (true_ : fnT N q 1 b [.dict [(.none, .list (ns.map .int))]] = some (.bool true)) :
    codeAny (model P w) callerA (.call (.ref fa) ⟨[.ref a], []⟩) (fun r s' => r = .ok (.ret (.bool true)) ∧ OldK s₁.heap s'.heap ∧ s'.os = s₁.os ∧ AllBare s'.gens) s₁ := by
  obtain ⟨G, gok, hG, here⟩ := script_in (P := P) (w := w) KX ha hi few
  have aT : T ≠ a := fun e => by
    rw [e, ha] at hT
    cases hT
  have gT : G T = none := by
    cases z : G T with
    | none => rfl
    | some u => exact absurd (hG T u z).1 aT
  let H : Hp := upd G T (.tbl #[])
  have atT : H T = some (.tbl #[]) := upd_same
  have elseT : ∀ b, b ≠ T → H b = G b := fun b h => upd_ne h
  have fromG : ∀ b u, G b = some u → H b = some u := grow_new gT
  have hH : ∀ b u, H b = some u → b = T ∧ u = .tbl #[] ∨ (b = a ∧ K.lookup a = none ∧ ∃ o u', u = .frz o u') := fun b u z => by
    by_cases e : b = T
    · subst e
      rw [atT] at z
      cases z
      exact .inl ⟨rfl, rfl⟩
    · rw [elseT b e] at z
      obtain ⟨rfl, h2⟩ := hG b u z
      exact .inr ⟨rfl, h2⟩
  have hok : HOk P w H s₁.heap := fun b u z => by
    rcases hH b u z with ⟨rfl, rfl⟩ | ⟨rfl, _, o, u', rfl⟩
    · exact hT
    · rw [elseT b (fun e => aT e.symm)] at z
      exact (gok b _ z).stay (fun _ _ _ r => r) (fun c r => fromG _ _ r) fun c xs r => fromG _ _ r
  have free_of : ∀ {b : Addr} {o : Obj}, s₁.heap.get? b = some o → (∀ vs n, o.data ≠ .seq vs n) → o.data ≠ .fields #[] → H b = none := fun {b o} e h1 h2 => by
    cases z : H b with
    | none => rfl
    | some u =>
      rcases hH b u z with ⟨rfl, _⟩ | ⟨rfl, _⟩
      · rw [hT] at e
        cases e
        exact absurd rfl h2
      · rw [ha] at e
        cases e
        exact absurd rfl (h1 _ _)
  have dict_free : ∀ {b : Addr} {o : Obj} {es : Array DictEntry} {n : Nat}, s₁.heap.get? b = some o → o.data = .dict es n → H b = none := fun {b o es n} e d => free_of e (fun _ _ z => by rw [d] at z; cases z) (fun z => by rw [d] at z; cases z)
  have ns_in : ∀ {b : Addr} {m : Str → Option Value}, s₁.heap.Ns b m → (hidT s₁.heap H).Ns b m := fun ⟨o, es, n, e, d, r⟩ => ⟨o, es, n, hidT_get e (dict_free e d), d, r⟩
  have mod : Mod K mg (hidT s₁.heap H) := {
    kin := fun b o e => hidT_get (KX b o e) (by
      cases z : H b with
      | none => rfl
      | some u =>
        rcases hH b u z with ⟨rfl, _⟩ | ⟨rfl, q, _⟩
        · rw [nT] at e; cases e
        · rw [q] at e; cases e)
    glob := ns_in hns
    blt := ⟨mb, ns_in hbl, hbb⟩
    nolimit := let ⟨mc, q1, q2⟩ := hlim; ⟨mc, ns_in q1, q2⟩ }
  have TB : LamX.TabB (hidT s₁.heap H) mg c T := by
    refine ⟨?_, ?_, fun z => ?_⟩
    · obtain ⟨o, us, file, tf, flags, tg, inF, text, tt, e1, r1, r2, r3, r4, r5, r6, r7, r8, hne⟩ := C
      refine ⟨o, us, file, tf, flags, tg, inF, text, tt, hidT_get e1 (free_of e1 (fun vs n z => ?_) fun z => ?_), r1, r2, r3, r4, r5, r6, r7, r8, hne⟩
      · rw [r2] at z; cases z
      · rw [r2] at z
        cases z
        simp at r3
    · obtain ⟨bm, ob, b1, b2, b3, b4, b5, b6⟩ := hbm
      refine ⟨bm, ob, b1, b2, fun e => ?_, fun e => ?_, hidT_get b3 (free_of b3 (fun vs n z => ?_) fun z => ?_), b4, b5, b6⟩
      · obtain ⟨o, es, n, e3, d, _⟩ := hns
        rw [e, e3] at b3
        cases b3
        rw [d] at b6
        cases b6
      · rw [e, hT] at b3
        cases b3
        cases b6
      · rw [b6] at z; cases z
      · rw [b6] at z; cases z
    · obtain ⟨o, es, n, e, d, _⟩ := hns
      rw [z, hT] at e
      cases e
      cases d
  have e0 : Env0 P w K mg (hidT s₁.heap H) callerA [] s₁ H := ⟨rfl, mod, fun _ _ e => of_hidT e, by rw [hidT_size]; exact Nat.le_refl _, trivial, fun c hc => (by cases hc), hok, .of_eq hg⟩
  have sys : ∃ o es n, (hidT s₁.heap H).get? sysModules = some o ∧ o.data = .dict es n := by
    obtain ⟨mm, o, es, n, e, d, _⟩ := hmo
    exact ⟨o, es, n, hidT_get e (dict_free e d), d⟩
  let Z : Par := ⟨H, [T], fun _ => False, by simp⟩
  have only : ∀ b, Mu Z [] b → b = T := fun b z => by
    rcases z with z | z | z
    · exact z.elim
    · exact ((List.mem_singleton.mp z).symm).symm
    · cases z
  have td : Dt K (Mu Z []) H (.ref a) (.dict [(.none, .list (ns.map .int))]) := .scr (here.imp (fun z => ⟨z.imp (fun z => fromG _ _ z) fun ⟨o, z⟩ => ⟨o, fromG _ _ z⟩, fun z => aT (only a z).symm⟩) id) (dtAll_ints ns)
  have rel : Rel K Z [] (L2.start N [.ref a]) H (startT N q [.dict [(.none, .list (ns.map .int))]]) := by
    refine ⟨fun _ _ e _ => e, fun _ z => (by cases z), fun _ z => z.elim, fun b z => ⟨_, ((List.mem_singleton.mp z).symm) ▸ atT⟩, ?_⟩
    obtain ⟨n, hn⟩ : ∃ n, N.length = n + 2 := ⟨N.length - 2, by omega⟩
    have e1 : L2.start N [.ref a] = some (.ref a) :: List.replicate (n + 1) none := by
      unfold L2.start
      rw [List.length_singleton, hn]
      rfl
    have e2 : startT N q [.dict [(.none, .list (ns.map .int))]] = .dat (.dict [(.none, .list (ns.map .int))]) :: (List.replicate n .no ++ [.tab 0 q]) := by
      unfold startT
      rw [List.length_singleton, hn]
      rfl
    rw [e1, e2]
    exact .dat td (slAll_tab atT n)
  have ready : lfS K Z b { nx := fun _ H' => False, rt := fun v _ => v = .bl true } (L2.start N [.ref a]) H := by
    have tr : outP (b (startT N q [.dict [(.none, .list (ns.map .int))]])) = some (.bool true) := by
      unfold fnT at true_
      rw [if_pos (show [PyData.dict [(PyData.none, PyData.list (ns.map PyData.int))]].length = 1 from rfl)] at true_
      exact true_
    clear true_
    unfold outP at tr
    split at tr
    · rename_i d1 s1 hq
      cases tr
      exact ⟨_, _, _, rel, hq, fun M σ H1 v k1 r1 t1 => t1.bool⟩
    · cases tr
    · cases tr
  obtain ⟨⟨oc, od, kV, doc, pm, an, cdv, ct, osl, e1, lk, hcdv⟩, kp⟩ := F
  subst e1
  have ecd : cdv = .ref c := hcd
  subst ecd
  have slots : ∀ y ∈ [(p, Value.ref a)], (defScope st).names.lookup y.1 = some .local ∨ ((defScope st).names.lookup y.1 = some .cell ∧ ((cellsFrom (s₁.heap.objs.size + 1) (defScope st).names []).lookup y.1).isSome = true) := fun y hy => by
    obtain rfl := List.mem_singleton.mp hy
    exact (S.par p (List.mem_singleton.mpr rfl)).imp id fun z => ⟨z, PySem.W.cellsFrom_some _ _ _ (.inl z)⟩
  have ran : codeAny (model P w) callerA (.call (.ref fa) ⟨[.ref a], []⟩) (CR CX0 [] P w H s₁ (fun v _ => v = .bl true) E0) s₁ := by
    refine codeAny_call_function room.depth (KX _ _ lk) rfl S.co S.gen rfl (PySem.W.codeRec_of KX hcdv) (bt s₁ (.ref a) _ _ _ _ (wpAny_newFunctionEnv_cells S.kind slots fun env he t0 io => ?_))
    cases he
    refine ⟨hlim.keeps io.toInCall.keep, codeAny_func ?_⟩
    have begun : Inv (cxOf CX0 P w K mg (hidT s₁.heap H) N x (defScope st) fa (.ref c) callerA [] s₁ H E0) [] (L2.start N [.ref a]) H t0 := inv_start S room.hd e0 rfl (.cons rfl .nil) io
    refine wpAny_mono ((body _ s₁ H Z mod (room.deeper _) ⟨rfl, by show 4 + 3 + 100 < 9900; omega, sys⟩ TB rfl).nox.run [] t0 _ H _ begun ready) (fun fl t1 done => ?_) fun _ _ z => z
    match fl, done with
    | .ret u, ⟨v, σ', H', J, rv, q⟩ => exact ⟨v, H', J.os, J.bare, J.base, J.hok, rv, q⟩
    | .next, ⟨_, _, _, z⟩ => exact z.elim
    | .brk, ⟨_, _, _, z⟩ => exact z.elim
    | .cont, ⟨_, _, _, z⟩ => exact z.elim
  refine codeAny_mono ran fun r t1 done => ?_
  match r, done with
  | .ok (.ret u), ⟨v, H', os, bare, un, ok', rv, q⟩ =>
    subst q
    obtain rfl : u = .bool true := rv
    obtain ⟨more, hm⟩ := un.tbls T #[] atT
    rw [Array.empty_append] at hm
    have grown : t1.heap.get? T = some { cls := .none, data := .fields more } := ok' T _ hm
    have same : ∀ b o, b ≠ T → s₁.heap.get? b = some o → t1.heap.get? b = some o := fun b o nb e => by
      cases z : H b with
      | none => exact un.keep b o e z (by simp [frs]) List.not_mem_nil
      | some u =>
        rcases hH b u z with ⟨rfl, _⟩ | ⟨rfl, _, o', u', rfl⟩
        · exact absurd rfl nb
        · have now := (ok' b _ (un.frzs b o' u' z)).1
          have was := (hok b _ z).1
          rw [was] at e
          cases e
          exact now
    refine ⟨rfl, ⟨fun b o e => ?_, fun b o e => ?_⟩, os, bare⟩
    · by_cases hb : b = T
      · subst hb
        rw [hT] at e
        cases e
        exact .inr (.inl ⟨(C.tab hT).isCodeTable, rfl, #[], more, rfl, by rw [Array.empty_append]; exact grown⟩)
      · exact .inl (same b o hb e)
    · by_cases hb : b = T
      · exact ⟨_, by rw [hb]; exact grown⟩
      · exact ⟨o, same b o hb e⟩
  | .ok .next, z => exact z.elim
  | .ok .brk, z => exact z.elim
  | .ok .cont, z => exact z.elim
  | .error e, z => exact (show False from z).elim
end
/-! #### the head -/
def lawD : He.Defn := ("law", none)
def exB (cs : List (Str × PyData)) (nm ts : List Str) (K : PySem.W.Frag) : Bool := cs.all (gcB K) && exfB nm ts K
/-- the law walked: as walk_data, the law making lambdas -/
theorem walk_dataT {l : PySem.W.OpenLaw} {n k : Nat} {q : Program} {loose : List Str} {XP : (Str → Option Value) → Heap → Prop} {d : DefRec} {fa : List He.Fa} {fn : List He.DefD} {cs : List (Str × PyData)} {nm ts : List Str} {m : Nat} {p qq : Str} {st : Stmt} {N : List Str} {b : DS}
    (most : l.most = some n) (few : n ≤ sizeLine) (hdf : d.params.defaults = []) (name : d.name = "law") (alone : importsNone q = true) (room : Room (k + 1) callerA) (S : FnScope N [p] (defScope st)) (len2 : 2 ≤ N.length)
    (F : ∀ (w : World) (mg : Str → Option Value) (h : Heap) (K : PySem.W.Frag), K.In h → h.Ns mainGlobals mg → He.SaysD fa fn K → cs.all (gcB K) = true → ExF K mg nm ts → ∃ fd : FuncData, mg "law" = some (.ref (He.fAd K lawD)) ∧ Fun K "law" "law" st (He.fAd K lawD) fd ∧ (∀ (s : Shared) (u : Value), BindsTo s fd ⟨[u], []⟩ [(p, u)]) ∧
      ∀ (base : Heap) (c T : Addr) (s : Shared) (H : Hp) (Z : Par), Mod K mg base → Room k (callerA.deeper (envOfC "law" (defScope st) s.heap.objs.size (He.fAd K lawD) (.ref c))) → CG (cxOf CX0 l.prog w K mg base N "law" (defScope st) (He.fAd K lawD) (.ref c) callerA [] s H E0).nox → LamX.TabB base mg c T → Z.p[0]? = some T →
        PSs (cxOf CX0 l.prog w K mg base N "law" (defScope st) (He.fAd K lawD) (.ref c) callerA [] s H E0).nox (defBody st) (lfS K Z b))
    (T : ∀ ns : List Int, ns.length ≤ n → fnT N qq 1 b [.dict [(.none, .list (ns.map .int))]] = some (.bool true)) :
    PySem.W.WalkO q loose XP (He.hookX m fa fn [] [lawD] (exB cs nm ts)).says l.row.toRowW d [] (fun f vs => PySem.call f vs) := by
  refine Att.attach_call most hdf fun w s₀ s₁ mg mb f o pm cd doc a vs ns G Y _ _ _ hmg hobj hints hlen hg => ?_
  obtain ⟨K, X, Sy⟩ := Y
  have more := Sy.more
  unfold exB at more
  rw [Bool.and_eq_true] at more
  obtain ⟨fd, e, Fn, bt, body⟩ := F w mg _ K X G.T.g Sy.t.d more.1 (exF_of X G.T.g more.2)
  rw [name] at hmg
  obtain rfl : f = He.fAd K lawD := Value.ref.inj (Option.some.inj (hmg.symm.trans e))
  obtain ⟨mm, sees, _⟩ := (G.T.seer alone).mods
  obtain ⟨c, hc⟩ : ∃ c, fd.code = .ref c := by
    obtain ⟨⟨oc, od, kV, doc, pm, an, cdv, ct, osl, e1, lk, hcdv⟩, kp⟩ := Fn
    subst e1
    exact He.codeIn_ref hcdv
  have e2 : He.codeOf K lawD = c := by
    obtain ⟨⟨oc, od, kV, doc, pm, an, cdv, ct, osl, e1, lk, hcdv⟩, kp⟩ := Fn
    exact He.codeOf_eq lk hc
  have in1 : lawD ∈ [lawD] := List.mem_singleton.mpr rfl
  have hd := Sy.hd lawD in1
  have e3 : (He.cT K lawD).1 = c := e2
  rw [e3] at hd
  exact law_hereT X G.T.g G.T.b G.T.builtins G.T.nolimit ⟨mm, sees⟩ hg hobj hints (Nat.le_trans hlen few) room Fn S bt (Sy.empty lawD in1) (Sy.out lawD in1) (PySem.W.codeHd_of_K X hd) hc G.T.bmain len2 (fun base s H Z M r cg tb hz => body base c _ s H Z M r cg tb hz) (T ns hlen)
end Dl

/-! ### texts cut and joined, f-strings, starred displays, a list's own places exchanged -/
namespace Dl
open PySem PySem.Spec PyProof.Rows L2
section
variable {X : Cx} {Z : Par} {M : List Addr} {K : PySem.W.Frag} {o a b e : Expr} {es : List Expr} {pos : Pos} {fo fa fb fe : DE} {ga : DA}
theorem Kq.none {M' : List Addr} {H H' : Hp} {mu : Addr → Prop} (k : Kq Z M H M' H') (hm : ∀ a, Mu Z M a → ∃ o, H' a = some o) {p : Addr} (h : H' p = none) : H p = none := by
  cases q : H p with
  | none => rfl
  | some o =>
    by_cases m : Mu Z M p
    · obtain ⟨u, e⟩ := hm p m
      rw [h] at e; cases e
    · have := (k.kp p o q m).1
      rw [h] at this; cases this
/-- x.split(y), a new list -/
def gSplit : PyData → PyData → Option (List PyData)
  | .str a, .str b => if (b.length == 0) = false ∧ a.length + 2 ≤ sizeLine then some ((Txt.split a b).map .str) else none
  | _, _ => none
theorem gSplit_some {d e : PyData} {ds : List PyData} (h : gSplit d e = some ds) : ∃ a b, d = .str a ∧ e = .str b ∧ (b.length == 0) = false ∧ a.length + 2 ≤ sizeLine ∧ ds = (Txt.split a b).map .str := by
  unfold gSplit at h
  split at h
  · split at h
    · rename_i c
      cases h
      exact ⟨_, _, rfl, rfl, c.1, c.2, rfl⟩
    · cases h
  · cases h
def fSplit (fo fe : DE) : DF := fun s => (fo s).bind fun p => (fe p.2).bind fun q => (gSplit p.1 q.1).map fun ds => (ds, q.2)
theorem fsplit {apos : Pos} (ho : PE X o (lft X.K Z fo)) (he : PE X e (lft X.K Z fe)) (hs : starEach [e] X.env = [(false, eval e X.env)] := by rfl) (hbase : attributeBase o "split" X.env (eval o X.env) = eval o X.env := by rfl) (hline : (apos.endLine == pos.line) = true := by rfl) :
    PE X (.Call (.Attribute o "split" apos) [e] [] pos) (lfF X.K Z (fSplit fo fe)) := PEimp (pe_split ho he hs hbase hline) fun σ H Q h => by
  obtain ⟨M, s, ds, s', rl, hf, k⟩ := h
  unfold fSplit at hf
  simp only [Option.bind_eq_some_iff, Option.map_eq_some_iff] at hf
  obtain ⟨⟨d1, s1⟩, h1, ⟨d2, s2⟩, h2, ds', h3, h4⟩ := hf
  cases h4
  obtain ⟨a, b, e1, e2, c1, c2, rfl⟩ := gSplit_some h3
  have e1' : d1 = .str a := e1
  have e2' : d2 = .str b := e2
  subst e1' e2'
  refine ⟨M, s, .str a, s1, rl, h1, fun v H1 k1 r1 t1 => ⟨⟨a, t1.text⟩, M, s1, .str b, _, r1, h2, fun w H2 k2 r2 t2 => ⟨a, b, t1.text, by rw [t2.text], c1, c2, fun p hp => ?_⟩⟩⟩
  have kk := k1.trans k2
  exact k p _ _ (Kq.none (mu := fun _ => True) kk r2.muT hp) upd_same (kk.trans (kq_grow (grow_new hp))) (r2.addNew hp _) ((dtAll_texts _).mono (kp_addNew hp _))
/-- x.join(ys), ys a list or a tuple of texts -/
def textsD : List PyData → Option (List Str)
  | [] => some []
  | .str x :: r => (textsD r).map (x :: ·)
  | _ :: _ => none
theorem textsD_map : ∀ {ds : List PyData} {xs : List Str}, textsD ds = some xs → ds = xs.map .str
  | [], xs, h => by cases h; rfl
  | d :: r, xs, h => by
    unfold textsD at h
    split at h
    · cases h; simp_all
    · rename_i b r' e
      simp only [Option.map_eq_some_iff] at h
      obtain ⟨bs', h1, h2⟩ := h
      injection e with e1 e2
      subst e1 e2 h2
      rw [List.map_cons, ← textsD_map h1]
    · cases h
theorem textsD_of : ∀ xs : List Str, textsD (xs.map .str) = some xs
  | [] => rfl
  | x :: r => by rw [List.map_cons, textsD, textsD_of r]; rfl
def joinD (a : Str) (ds : List PyData) : Option PyData := (textsD ds).bind fun ys => if (ys.map (·.length)).sum + ys.length * a.length ≤ 16777216 then some (.str (Txt.join a ys)) else none
theorem joinD_some {a : Str} {ds : List PyData} {d : PyData} (h : joinD a ds = some d) : ∃ ys : List Str, ds = ys.map .str ∧ (ys.map (·.length)).sum + ys.length * a.length ≤ 16777216 ∧ d = .str (Txt.join a ys) := by
  unfold joinD at h
  simp only [Option.bind_eq_some_iff] at h
  obtain ⟨ys, h1, h2⟩ := h
  split at h2
  · cases h2
    exact ⟨ys, textsD_map h1, by assumption, rfl⟩
  · cases h2
def gJoin : PyData → PyData → Option PyData
  | .str a, .list ds => joinD a ds
  | .str a, .tuple ds => joinD a ds
  | _, _ => none
theorem djoin {apos : Pos} (ho : PE X o (lft X.K Z fo)) (he : PE X e (lft X.K Z fe)) (hs : starEach [e] X.env = [(false, eval e X.env)] := by rfl) (hbase : attributeBase o "join" X.env (eval o X.env) = eval o X.env := by rfl) (hline : (apos.endLine == pos.line) = true := by rfl) :
    PE X (.Call (.Attribute o "join" apos) [e] [] pos) (lft X.K Z (dOp gJoin fo fe)) := PEimp (pe_join ho he hs hbase hline) fun σ H Q h => by
  obtain ⟨M, s, d, s', rl, hf, k⟩ := h
  obtain ⟨d1, s1, d2, h1, h2, h3⟩ := dOp_some hf
  unfold gJoin at h3
  split at h3
  · obtain ⟨ys, rfl, c, rfl⟩ := joinD_some h3
    refine ⟨M, s, _, s1, rl, h1, fun v H1 k1 r1 t1 => ⟨⟨_, t1.text⟩, M, s1, _, _, r1, h2, fun w H2 k2 r2 t2 => ?_⟩⟩
    obtain ⟨p, xs, rfl, g1, g2⟩ := t2.list
    rw [g2.texts] at g1
    exact ⟨_, p, ys, t1.text, rfl, .inl g1, c, k _ H2 (k1.trans k2) r2 (.str _)⟩
  · obtain ⟨ys, rfl, c, rfl⟩ := joinD_some h3
    refine ⟨M, s, _, s1, rl, h1, fun v H1 k1 r1 t1 => ⟨⟨_, t1.text⟩, M, s1, _, _, r1, h2, fun w H2 k2 r2 t2 => ?_⟩⟩
    obtain ⟨p, xs, rfl, g1, g2⟩ := t2.tuple
    rw [g2.texts] at g1
    exact ⟨_, p, ys, t1.text, rfl, .inr g1, c, k _ H2 (k1.trans k2) r2 (.str _)⟩
  · cases h3
/-- .. of a name's own list -/
def dJoinC (fo : DE) (i : Nat) : DE := fun s => (fo s).bind fun p => (contents p.2 i).bind fun ds => match p.1 with
  | .str a => (joinD a ds).map fun d => (d, p.2)
  | _ => none
theorem djoinC (i : Nat) {apos : Pos} (ho : PE X o (lft X.K Z fo)) (he : PE X e (tVar i)) (hs : starEach [e] X.env = [(false, eval e X.env)] := by rfl) (hbase : attributeBase o "join" X.env (eval o X.env) = eval o X.env := by rfl) (hline : (apos.endLine == pos.line) = true := by rfl) :
    PE X (.Call (.Attribute o "join" apos) [e] [] pos) (lft X.K Z (dJoinC fo i)) := PEimp (pe_join ho he hs hbase hline) fun σ H Q h => by
  obtain ⟨M, s, d, s', rl, hf, k⟩ := h
  unfold dJoinC at hf
  simp only [Option.bind_eq_some_iff] at hf
  obtain ⟨⟨d1, s1⟩, h1, ds, h2, h3⟩ := hf
  dsimp only at h2 h3
  split at h3
  · simp only [Option.map_eq_some_iff] at h3
    obtain ⟨d2, h3, h4⟩ := h3
    cases h4
    obtain ⟨ys, rfl, c, rfl⟩ := joinD_some h3
    refine ⟨M, s, _, _, rl, h1, fun v H1 k1 r1 t1 => ⟨⟨_, t1.text⟩, ?_⟩⟩
    obtain ⟨p, xs, g1, g2, g3, _⟩ := r1.at h2
    rw [g3.texts] at g2
    exact ⟨.ref p, g1, _, p, ys, t1.text, rfl, .inl (.inl (.inl g2)), c, k _ H1 k1 r1 (.str _)⟩
  · cases h3
/-- len(x), x[a:b] of a name's own list -/
def dLenC (i : Nat) : DE := fun s => (contents s i).map fun ds => (.int ds.length, s)
theorem dlenC (i : Nat) {x : Str} {p : Pos} (hg : Gl X x) (hm : X.mg x = none) (hv : bootBuiltins x = some (.builtin "len")) (ha : PE X e (tVar i)) (hn : x ≠ "__name__" := by decide)
    (hdb : (x == ("__debug__" : Str)) = false := by decide) (he : starEach [e] X.env = (false, eval e X.env) :: starEach [] X.env := by rfl) (hpl : (backTo pos (starEach [] X.env)).any (·.1) = false := by rfl) : PE X (.Call (.Name x p) [e] [] pos) (lft X.K Z (dLenC i)) :=
  PEimp (pe_callB call_len hg hm hv (pa_cons ha pa_nil he) hn hdb he hpl) fun σ H Q h => by
    obtain ⟨M, s, d, s', rl, hf, k⟩ := h
    unfold dLenC at hf
    simp only [Option.map_eq_some_iff] at hf
    obtain ⟨ds, h1, h2⟩ := hf
    cases h2
    obtain ⟨p, xs, g1, g2, g3, _⟩ := rl.at h1
    exact ⟨.ref p, g1, _, _, rfl, .inl ⟨xs, .inl (.inl g2), rfl⟩, by rw [g3.len]; exact k _ H (Kq.refl _ _ _) rl (.int _)⟩
def dSlC (i : Nat) (lo hi : DO) : DE := fun s => (contents s i).bind fun _ => (lo s).bind fun q => (hi q.2).bind fun r => (contents r.2 i).map fun ds => (.list (cutD ds q.1 r.1), r.2)
theorem dslC (i : Nat) {lo hi : Option Expr} {flo fhi : DO} {p2 : Pos} (he : PE X e (tVar i)) (hl : PO X lo (lfO X.K Z flo)) (hu : PO X hi (lfO X.K Z fhi)) : PE X (.Subscript e (.Slice lo hi none p2) pos) (lft X.K Z (dSlC i flo fhi)) := PEimp (pe_slice sl_list he hl hu) fun σ H Q h => by
  obtain ⟨M, s, d, s', rl, hf, k⟩ := h
  unfold dSlC at hf
  simp only [Option.bind_eq_some_iff, Option.map_eq_some_iff] at hf
  obtain ⟨ds0, h0, ⟨o1, s2⟩, h2, ⟨o2, s3⟩, h3, ds, h4, h5⟩ := hf
  cases h5
  obtain ⟨p0, xs0, g1, _⟩ := rl.at h0
  refine ⟨.ref p0, g1, M, s, o1, s2, rl, h2, fun H2 k2 r2 => ⟨M, s2, o2, _, r2, h3, fun H3 k3 r3 => ?_⟩⟩
  obtain ⟨p1, xs, e1, e2, e3, _⟩ := r3.at h4
  rw [g1] at e1
  cases e1
  exact ⟨p0, xs, rfl, .inl (.inl e2), fun p hp => k _ _ ((k2.trans k3).trans (kq_grow (grow_new hp))) (r3.grow (grow_new hp)) (dt_newL r3.muT hp (cut_dt e3 _ _))⟩
/-- *e in a display -/
def aStar (f : DE) (g : DA) : DA := fun s => (f s).bind fun p => match p.1 with
  | .list ds => (g p.2).map fun q => (ds ++ q.1, q.2)
  | .tuple ds => (g p.2).map fun q => (ds ++ q.1, q.2)
  | _ => none
theorem dastar {p : Pos} (ha : PE X e (lft X.K Z fa)) (hb : PA X es (lfA X.K Z ga)) (hs : starEach (.Starred e p :: es) X.env = (true, eval e X.env) :: starEach es X.env := by rfl) : PA X (.Starred e p :: es) (lfA X.K Z (aStar fa ga)) := PAimp (StX.pa_star ha hb hs) fun σ H Q h => by
  obtain ⟨M, s, d, s', rl, hf, k⟩ := h
  unfold aStar at hf
  simp only [Option.bind_eq_some_iff] at hf
  obtain ⟨⟨d1, s1⟩, h1, h2⟩ := hf
  dsimp only at h2
  split at h2
  · simp only [Option.map_eq_some_iff] at h2
    obtain ⟨⟨r, s2⟩, h2, h3⟩ := h2
    cases h3
    refine ⟨M, s, _, s1, rl, h1, fun v H1 k1 r1 t1 => ?_⟩
    obtain ⟨p, xs, rfl, g1, g2⟩ := t1.list
    exact ⟨p, xs, rfl, .inr g1, M, s1, r, _, r1, h2, fun ys H2 k2 r2 t2 => k _ H2 (k1.trans k2) r2 ((g2.mono k2.kp).append t2)⟩
  · simp only [Option.map_eq_some_iff] at h2
    obtain ⟨⟨r, s2⟩, h2, h3⟩ := h2
    cases h3
    refine ⟨M, s, _, s1, rl, h1, fun v H1 k1 r1 t1 => ?_⟩
    obtain ⟨p, xs, rfl, g1, g2⟩ := t1.tuple
    exact ⟨p, xs, rfl, .inl g1, M, s1, r, _, r1, h2, fun ys H2 k2 r2 t2 => k _ H2 (k1.trans k2) r2 ((g2.mono k2.kp).append t2)⟩
  · cases h2
/-- f'..' -/
def gFmt : PyData → Option PyData
  | .str y => if y.length ≤ sizeLine then some (.str y) else none
  | .int i => if i.natAbs.log2 < 1920 then some (.str (toString i)) else none
  | _ => none
theorem dfmt (he : PE X e (lft X.K Z fe)) : PE X (.FormattedValue e (-1) none pos) (lft X.K Z (dUn gFmt fe)) := PEimp (pe_fmt he) fun σ H Q h => by
  obtain ⟨M, s, d, s', rl, hf, k⟩ := h
  obtain ⟨d1, h1, h3⟩ := dUn_some hf
  unfold gFmt at h3
  split at h3
  · split at h3
    · cases h3
      exact ⟨M, s, _, s', rl, h1, fun v H1 k1 r1 t1 => .inl ⟨_, t1.text, by assumption, k _ H1 k1 r1 (.str _)⟩⟩
    · cases h3
  · split at h3
    · cases h3
      exact ⟨M, s, _, s', rl, h1, fun v H1 k1 r1 t1 => .inr ⟨_, t1.inti, by assumption, k _ H1 k1 r1 (.str _)⟩⟩
    · cases h3
  · cases h3
def runJs : List DE → Str → Sl → Option (Str × Sl)
  | [], acc, s => some (acc, s)
  | f :: fs, acc, s => (f s).bind fun p => match p.1 with
    | .str y => if (acc ++ y).length ≤ sizeLine then runJs fs (acc ++ y) p.2 else none
    | _ => none
def dJs (fs : List DE) : DE := fun s => (runJs fs Str.empty s).map fun p => (.str p.1, p.2)
theorem lift_js : ∀ (fs : List DE) (acc : Str) {M : List Addr} {σ : L2.St} {H : Hp} {s s' : Sl} {out : Str} {Q : Str → Hp → Prop}, Rel K Z M σ H s → runJs fs acc s = some (out, s') → (∀ H', Kq Z M H M H' → Rel K Z M σ H' s' → Q out H') → tJs (fs.map (lft K Z)) acc σ H Q
  | [], acc, M, σ, H, s, s', out, Q, rl, e, k => by
    cases e
    exact k H (Kq.refl _ _ _) rl
  | f :: fs, acc, M, σ, H, s, s', out, Q, rl, e, k => by
    unfold runJs at e
    simp only [Option.bind_eq_some_iff] at e
    obtain ⟨⟨d, s1⟩, e1, e2⟩ := e
    dsimp only at e2
    split at e2
    · split at e2
      · exact ⟨M, s, _, s1, rl, e1, fun v H1 k1 r1 t1 => ⟨_, t1.text, by assumption, lift_js fs _ r1 e2 fun H2 k2 r2 => k H2 (k1.trans k2) r2⟩⟩
      · cases e2
    · cases e2
theorem djs {v1 v2 : Expr} {rest : List Expr} {fs : List DE} (h : PJ X (v1 :: v2 :: rest) (fs.map (lft X.K Z))) : PE X (.JoinedStr (v1 :: v2 :: rest) pos) (lft X.K Z (dJs fs)) := PEimp (pe_joined h) fun σ H Q h => by
  obtain ⟨M, s, d, s', rl, hf, k⟩ := h
  unfold dJs at hf
  simp only [Option.map_eq_some_iff] at hf
  obtain ⟨⟨out, s1⟩, h1, h2⟩ := hf
  cases h2
  exact lift_js fs Str.empty rl h1 fun H1 k1 r1 => k _ H1 k1 r1 (.str _)
theorem nmd_of {K : PySem.W.Frag} {mg : Str → Option Value} {nm ts : List Str} (Fx : ExF K mg nm ts) : Nmd K mg nm := fun c hc => Fx.at_ c (List.mem_cons_of_mem _ (List.mem_append_left _ hc))
theorem wordOf_in {nm : List Str} {n : Nat} {b : DS} {c w : Str} (h : wordOf nm n b (some c) = some w) : c ∈ nm := by
  unfold wordOf at h
  dsimp only at h
  split at h
  · assumption
  · cases h
/-! str(..), int(..) -/
def gStr1 : List PyData → Option PyData
  | [.int i] => if i.natAbs.log2 < 1920 then some (.str (toString i)) else none
  | [.str x] => some (.str x)
  | _ => none
def rStr1 : List V → Hp → VK → Prop := fun xs H Q => (∃ i : Int, xs = [.int i] ∧ i.natAbs.log2 < 1920 ∧ Q (.str (toString i)) H) ∨ ∃ a, xs = [.str a] ∧ Q (.str a) H
theorem call_str1 : CallR X (.type "str") rStr1 := CallR.or call_str_int SkE.call_str_str
theorem ok_str1 : CallOk K rStr1 gStr1 := fun mu H xs ds d Q hm t e k => by
  unfold gStr1 at e
  split at e
  · split at e
    case isFalse => cases e
    obtain ⟨x, rfl, t1⟩ := one_of t
    cases e
    exact .inl ⟨_, by rw [t1.inti], by assumption, k _ H (fun _ _ z => z) (.str _)⟩
  · obtain ⟨x, rfl, t1⟩ := one_of t
    cases e
    exact .inr ⟨_, by rw [t1.text], k _ H (fun _ _ z => z) (.str _)⟩
  · cases e
def gIntA : List PyData → Option PyData
  | [.int i] => some (.int i)
  | [.bool b] => some (.int (if b then 1 else 0))
  | [.str x] => if x.length ≤ 640 then (PySem.intText? x).map .int else none
  | _ => none
def rIntA : List V → Hp → VK → Prop := fun xs H Q => ((∃ i, xs = [.int i] ∧ Q (.int i) H) ∨ ∃ k, xs = [.bl k] ∧ Q (.int (if k then 1 else 0)) H) ∨ ∃ a n, xs = [.str a] ∧ PySem.intText? a = some n ∧ a.length ≤ 640 ∧ Q (.int n) H
theorem call_intA : CallR X (.type "int") rIntA := CallR.or call_int1 call_int_str
theorem ok_intA : CallOk K rIntA gIntA := fun mu H xs ds d Q hm t e k => by
  unfold gIntA at e
  split at e
  · obtain ⟨x, rfl, t1⟩ := one_of t
    cases e
    exact .inl (.inl ⟨_, by rw [t1.inti], k _ H (fun _ _ z => z) (.int _)⟩)
  · obtain ⟨x, rfl, t1⟩ := one_of t
    cases e
    exact .inl (.inr ⟨_, by rw [t1.bool], k _ H (fun _ _ z => z) (.int _)⟩)
  · split at e
    case isFalse => cases e
    obtain ⟨x, rfl, t1⟩ := one_of t
    simp only [Option.map_eq_some_iff] at e
    obtain ⟨n, e1, e2⟩ := e
    cases e2
    exact .inr ⟨_, n, by rw [t1.text], e1, by assumption, k _ H (fun _ _ z => z) (.int _)⟩
  · cases e
/-! x[a], x[b] = e, f -/
def sSwp (i : Nat) (f1 f2 k1 k2 : DE) : DS := fun s => (f1 s).bind fun p1 => (f2 p1.2).bind fun p2 => (contents p2.2 i).bind fun _ => (k1 p2.2).bind fun q1 => (contents q1.2 i).bind fun ds1 => match q1.1 with
  | .int n1 => (ixN ds1.length n1).bind fun j1 => (k2 (setC q1.2 i (ds1.set j1 p1.1))).bind fun q2 => (contents q2.2 i).bind fun ds2 => match q2.1 with
    | .int n2 => (ixN ds2.length n2).map fun j2 => .nx (setC q2.2 i (ds2.set j2 p2.1))
    | _ => none
  | _ => none
theorem sswp (i : Nat) {a1 a2 e1 e2 c1 c2 : Expr} {p1 p2 pt pt2 : Pos} {kt kt2 : Nat} {f1 f2 g1 g2 : DE} (hc : X.calm = true) (h1 : PE X e1 (lft X.K Z f1)) (h2 : PE X e2 (lft X.K Z f2)) (ha1 : PE X a1 (tVar i)) (ha2 : PE X a2 (tVar i)) (hc1 : PE X c1 (lft X.K Z g1)) (hc2 : PE X c2 (lft X.K Z g2))
    (h4 : ∀ v, assign (.Subscript a1 c1 p1) X.env v = (do
      let ov ← holding [v] (eval a1 X.env)
      let iv ← holding [v, ov] (eval c1 X.env)
      standAt p1
      holding [v, ov, iv] (setItem ov iv v)
      release [v, ov, iv] []) := by intro _; rfl)
    (h5 : ∀ v, assign (.Subscript a2 c2 p2) X.env v = (do
      let ov ← holding [v] (eval a2 X.env)
      let iv ← holding [v, ov] (eval c2 X.env)
      standAt p2
      holding [v, ov, iv] (setItem ov iv v)
      release [v, ov, iv] []) := by intro _; rfl)
    (hs1 : starEach [e1, e2] X.env = (false, eval e1 X.env) :: starEach [e2] X.env := by rfl) (hs2 : starEach [e2] X.env = (false, eval e2 X.env) :: starEach [] X.env := by rfl)
    (hs : swapsWithSole [.Tuple [.Subscript a1 c1 p1, .Subscript a2 c2 p2] kt pt] (.Tuple [e1, e2] kt2 pt2) pos.line X.env = pure false := by rfl) (hw : swappedStores [.Tuple [.Subscript a1 c1 p1, .Subscript a2 c2 p2] kt pt] (.Tuple [e1, e2] kt2 pt2) X.env = pure none := by rfl)
    (h6 : (assignEach [.Tuple [.Subscript a1 c1 p1, .Subscript a2 c2 p2] kt pt] X.env).map (·.2) = [assign (.Tuple [.Subscript a1 c1 p1, .Subscript a2 c2 p2] kt pt) X.env] := by rfl) (hn : (assignEach [.Subscript a1 c1 p1, .Subscript a2 c2 p2] X.env).length = 2 := by rfl) :
    PS X (.Assign [.Tuple [.Subscript a1 c1 p1, .Subscript a2 c2 p2] kt pt] (.Tuple [e1, e2] kt2 pt2) pos) (lfS X.K Z (sSwp i f1 f2 g1 g2)) :=
  PSimp (ps_asg (pe_tup (pa_cons h1 (pa_cons h2 pa_nil hs2) hs1)) (pg_tup hc (pgs_cons (pg_sub ha1 hc1 set_list h4) (pgs_cons (pg_sub ha2 hc2 set_list h5) pgs_nil))) hs hw h6) fun D σ H h => by
    obtain ⟨M, s, fl, rl, hf, k⟩ := h
    unfold sSwp at hf
    simp only [Option.bind_eq_some_iff] at hf
    obtain ⟨⟨d1, s1⟩, e1, ⟨d2, s2⟩, e2, ds0, e3, ⟨q1, s3⟩, e4, ds1, e5, hf⟩ := hf
    dsimp only at e2 e3 e4 e5 hf
    split at hf
    case h_2 => cases hf
    rename_i n1
    simp only [Option.bind_eq_some_iff] at hf
    obtain ⟨j1, e6, ⟨q2, s4⟩, e7, ds2, e8, hf⟩ := hf
    dsimp only at e8 hf
    split at hf
    case h_2 => cases hf
    rename_i n2
    simp only [Option.map_eq_some_iff] at hf
    obtain ⟨j2, e9, e10⟩ := hf
    cases e10
    refine ⟨M, s, d1, s1, rl, e1, fun v1 H1 k1 r1 t1 => ⟨M, s1, d2, s2, r1, e2, fun v2 H2 k2 r2 t2 => ⟨by show 2 ≤ sizeLine; decide, fun p hp => ?_⟩⟩⟩
    have r2' := r2.grow (grow_new (o := .tup [v1, v2]) hp)
    have kn : Kq Z M H2 M (upd H2 p (.tup [v1, v2])) := kq_grow (grow_new hp)
    refine ⟨p, [v1, v2], rfl, .inl (.inl upd_same), by rw [hn]; rfl, v1, [v2], rfl, ?_⟩
    obtain ⟨a0, xs0, g1, _⟩ := r2'.at e3
    refine ⟨.ref a0, g1, M, s2, .int n1, s3, r2', e4, fun w H3 k3 r3 t3 => ?_⟩
    obtain ⟨a1, xs, g3, g4, g5, g6, up⟩ := r3.at e5
    rw [g1] at g3
    cases g3
    refine ⟨a0, xs, n1, j1, rfl, t3.inti, g4, by rw [g5.len]; exact e6, ?_⟩
    have kk : Kp (Mu Z M) H3 (Mu Z M) (upd H3 a0 (.lst (xs.set j1 v1))) := fun b o e n => ⟨upd_lst b o e (fun z => n (by subst z; assumption)), n⟩
    have t1' := t1.mono (k2.trans (kn.trans k3)).kp
    have t2' := t2.mono (kn.trans k3).kp
    obtain ⟨r4, k4⟩ := up (upd H3 a0 (.lst (xs.set j1 v1))) (xs.set j1 v1) (ds1.set j1 d1) upd_same upd_lst ((DtAll.set t1' j1 g5).mono kk)
    refine ⟨v2, [], rfl, ?_⟩
    refine ⟨.ref a0, g1, M, _, .int n2, s4, r4, e7, fun w2 H5 k5 r5 t5 => ?_⟩
    obtain ⟨a3, ys, g7, g8, g9, g10, up2⟩ := r5.at e8
    rw [g1] at g7
    cases g7
    refine ⟨a0, ys, n2, j2, rfl, t5.inti, g8, by rw [g9.len]; exact e9, ?_⟩
    have kk2 : Kp (Mu Z M) H5 (Mu Z M) (upd H5 a0 (.lst (ys.set j2 v2))) := fun b o e n => ⟨upd_lst b o e (fun z => n (by subst z; assumption)), n⟩
    obtain ⟨r6, k6⟩ := up2 (upd H5 a0 (.lst (ys.set j2 v2))) (ys.set j2 v2) (ds2.set j2 d2) upd_same upd_lst ((DtAll.set (t2'.mono (k4.trans k5).kp) j2 g9).mono kk2)
    exact ⟨rfl, k M σ _ (k1.trans (k2.trans (kn.trans (k3.trans (k4.trans (k5.trans k6)))))) r6⟩
end
end Dl

/-! ### a set of numbers out of a list, put in order -/
namespace L2
open PySem PySem.Spec PyProof.Rows
abbrev freshS (w : World) : Obj := { cls := .type "set", dict := none, data := .set #[] 0 (.fresh 0 0 (!w.params.followText "set-order")) }
section
variable {P : Program} {w : World} {A : Around} {E : Value → Shared → Prop} {s : Shared}
set_option maxHeartbeats 6400000 in
/-- set(l), l a list of numbers: a set whose order is kept -/
theorem setL_ints {l : Addr} {us : Array Value} (zs : List Int) {Q : Value → Shared → Prop} (calm : A.handled = none) (isL : s.heap.IsList l us) (are : IntsAre us.toList zs) (few : zs.length + 1 < scanBound)
    (k : ∀ (g : Heap) (tk c : Nat), SetR w g s.heap.objs.size (fun j => decide (j ∈ zs)) c → (∀ b o, s.heap.get? b = some o → g.get? b = some o) → c ≤ zs.length → Q (.ref s.heap.objs.size) { s with heap := g, toks := tk }) :
    wpAny (model P w) A (call (.type "set") [.ref l]) Q E s := by
  have sz : us.size = zs.length := by have q := IntsAre.length are; simpa using q
  obtain ⟨c, tl, hmro⟩ := F.called_set.mro
  have made := F.called_set.made; have sub := F.called_set.sub
  refine wpAny_call (codeAny_of_tree (show wpAny _ _ (callAny (.type "set") _) _ _ _ from wpAny_pure ⟨Code.quiet_builtin _ (by decide +kernel), codeAny_builtin F.entry_type_call ?_⟩))
  rw [Around.under_plain (weight_type_call_type "set" [.ref l] []) rfl]
  have n1 := F.called_set.notType; have n2 := F.called_set.canCreate; have n3 := F.typeCall_set_1 (.ref l)
  repeat (any_goals (first | assumption | wp_step))
  refine codeAny_mono (code_set_led1 (.ref l) (E := E) (Q₁ := fun u t => u = .ref s.heap.objs.size ∧ t = { s with heap := s.heap.push (freshS w) }) ⟨rfl, rfl⟩) fun r t hr => ?_
  match r, hr with
  | .error e, hr => exact hr
  | .ok .next, hr => exact hr.elim
  | .ok .brk, hr => exact hr.elim
  | .ok .cont, hr => exact hr.elim
  | .ok (.ret u), hr =>
    obtain ⟨rfl, rfl⟩ := hr
    have at0 : (s.heap.push (freshS w)).get? s.heap.objs.size = some (freshS w) := Heap.get?_push_size _ rfl
    have ty0 : Shared.TypeIs { s with heap := s.heap.push (freshS w) } (.ref s.heap.objs.size) "set" := ⟨_, at0, rfl⟩
    have i1 := F.called_set.init.lookup; have i2 := F.called_set.init.bind (.ref s.heap.objs.size)
    repeat (any_goals (first | assumption | wp_step))
    refine codeAny_mono (codeAny_call_builtin (R := wants (fun v t2 => v = .none ∧ ∃ g tk c, t2 = { s with heap := g, toks := tk } ∧ c ≤ zs.length ∧ SetR w g s.heap.objs.size (fun j => decide (j ∈ zs)) c ∧ ∀ b o, s.heap.get? b = some o → g.get? b = some o) E)
      F.called_set.init.plain F.entry_set_init (check_set_init_1 ty0 ?_)) fun r2 t2 hr2 => ?_
    · obtain ⟨⟨oc, od, dt, osl⟩, hol, hcl, nl, hdl⟩ := isL
      simp only at hcl hdl
      subst hcl hdl
      have hol2 : (s.heap.push (freshS w)).get? l = some { cls := .type "list", dict := od, data := .seq us nl, slots := osl } := Heap.get?_push_of_some _ hol
      have q1 := F.sub_list_set; have q2 := F.sub_list_frozenset
      have q3 : (Value.type "list" == Value.type "dict") = false := by decide
      unfold Builtin.«set.__init__» noKeywords Builtin.Frozenset.updateFrom
      generalize hPI : pyIter = PI
      wp_walk
      subst hPI
      have il : (s.heap.push (freshS w)).IsList l us := ⟨_, hol2, rfl, nl, rfl⟩
      have ll : l < s.heap.objs.size := Heap.lt_size hol
      have sz1 : (s.heap.push (freshS w)).objs.size = s.heap.objs.size + 1 := Heap.size_push ..
      refine wpAny_pyIter_list il (wpAny_bind (wpAny_runValue ?_))
      have calm3 : A.in1.in1.in1.handled = none := by simp [calm]
      have vals : ∀ (i : Nat) (v : Value), us[i]? = some v → ∃ z t, zs[i]? = some z ∧ v = .int z t := fun i v hv => by
        have hi : i < zs.length := sz ▸ (Array.getElem?_eq_some_iff.mp hv).1
        obtain ⟨t, e⟩ := IntsAre.int_at are i v (by rw [Array.getElem?_toList]; exact hv)
        exact ⟨zs[i], t, List.getElem?_eq_getElem hi, by rw [e, List.getD_eq_getElem?_getD, List.getElem?_eq_getElem hi]; rfl⟩
      refine set_update_ints ((Walks.list calm3 _ l (by rw [sz1]; exact Nat.ne_of_lt (Nat.lt_succ_of_lt ll)) us).toS) s.heap.objs.size (by rw [sz1]; simp only [List.mem_cons, List.not_mem_nil, or_false, not_or]; exact ⟨Nat.ne_of_lt (Nat.lt_succ_self _), Nat.ne_of_gt ll⟩) zs sz few vals (us.size - 0) 0 _ (by omega) (Nat.zero_le _) ⟨⟨_, Heap.get?_push_size _ rfl, rfl, rfl⟩, il.push _⟩
        ⟨0, Nat.le_refl 0, setR_new_at (Heap.get?_push_of_some _ at0)⟩ fun t3 c3 moved c3le R3 => ?_
      obtain ⟨g3, ge3, dr3, tk3, os3⟩ := t3
      have w1 : ge3 = s.gens := moved.gens
      have w2 : dr3 = s.drawn := moved.drawn
      have w3 : os3 = s.os := moved.os
      subst w1 w2 w3
      refine (show wpAny _ _ _ _ _ _ from wpAny_pure (show wpAny _ _ (ret Value.none) _ _ _ from wpAny_pure ⟨rfl, g3, tk3, c3, rfl, sz ▸ c3le, R3, fun b o e => ?_⟩))
      have lb : b < s.heap.objs.size := Heap.lt_size e
      refine moved.heap b o ?_ (Heap.get?_push_of_some _ (Heap.get?_push_of_some _ e))
      simp only [List.mem_cons, List.not_mem_nil, or_false, sz1, not_or]
      exact ⟨Nat.ne_of_lt lb, Nat.ne_of_lt (Nat.lt_succ_of_lt lb)⟩
    · match r2, hr2 with
      | .error e, hr2 => exact hr2
      | .ok .next, hr2 => exact hr2.elim
      | .ok .brk, hr2 => exact hr2.elim
      | .ok .cont, hr2 => exact hr2.elim
      | .ok (.ret v), hr2 =>
        obtain ⟨rfl, g, tk, c, rfl, cle, R, kp⟩ := hr2
        repeat (any_goals (first | assumption | wp_step))
        exact k g tk c R kp cle
end
def rSetZ (K : PySem.W.Frag) (w : World) : List V → Hp → VK → Prop := fun vs H Q => ∃ (l : Addr) (zs : List Int), vs = [.ref l] ∧ SqL K H l (zs.map V.int) ∧ zs.length < 64 ∧ ∀ (p : Addr) (c : Nat), H p = none → c < 64 → Q (.ref p) (upd H p (SetO w p (fun j => decide (j ∈ zs)) c))
theorem cr_setZ {X : Cx} (calm : X.calm = true) : CallR X (.type "set") (rSetZ X.K X.w) := fun pins s σ H xs us Q I r ⟨l, zs, e, hl, few, q⟩ => by
  subst e
  rw [Vals.ref1 r]
  obtain ⟨its, rv, pl, _⟩ := I.list hl
  refine setL_ints zs (I.ok.hd calm) pl.isList (by simpa using rv.ints) (by unfold scanBound; omega) fun g tk c R kp cle => ?_
  exact ⟨.ref s.heap.objs.size, _, I.laid (t' := tk) kp (Nat.le_refl _) (setO_new R), rfl, q _ c (I.hok.fresh (Nat.le_refl _)) (by omega)⟩
end L2

namespace Dl
open PySem PySem.Spec PyProof.Rows L2
/-! ### the place of a text in a tuple of texts -/
theorem Dt.tupNo {X : Cx} {pins : List (Addr × Obj)} {σ : L2.St} {H : Hp} {s : Shared} {mu : Addr → Prop} {a : Addr} {ds : List PyData} (I : Inv X pins σ H s) (t : Dt X.K mu H (.ref a) (.tuple ds)) :
    ∃ ob, s.heap.get? a = some ob ∧ ob.cls = .type "tuple" ∧ ob.dict = none := by
  cases t with
  | tup h _ _ =>
    obtain ⟨o, e, z⟩ := h
    obtain ⟨g, _, its, _, ob, e1, c, _⟩ := I.hok a _ e
    rw [g] at e1
    cases e1
    exact ⟨o, g, c, z⟩
  | tupK _ z _ =>
    obtain ⟨_, o, e, c, n⟩ := z
    exact ⟨o, I.kIn a o e, c, n⟩
def gTIndex : PyData → PyData → Option PyData
  | .tuple ds, .str x => (strsS ds).bind fun ys => if x ∈ ys then some (.int (ys.idxOf x : Nat)) else none
  | _, _ => none
section
variable {X : Cx} {Z : Par} {o e : Expr} {fo fe : DE} {apos cpos : Pos}
theorem dtindex (ho : PE X o (lft X.K Z fo)) (ha : PE X e (lft X.K Z fe)) (hbase : attributeBase o "index" X.env (eval o X.env) = eval o X.env := by rfl)
    (hfew : ((backTo cpos (starEach [e] X.env)).all (fun x => !x.1) && (backToKw cpos (keywordEach [] X.env)).all (fun x => x.1.isSome)
      && decide ([e].length + ([] : List Keyword).length + (if ([] : List Keyword).isEmpty then 0 else 1) < 30)) = true := by rfl)
    (hline : (apos.endLine == cpos.line) = true := by rfl) (hs : starEach [e] X.env = (false, eval e X.env) :: starEach [] X.env := by rfl) (hplain : (backTo cpos (starEach [] X.env)).any (·.1) = false := by rfl) :
    PE X (.Call (.Attribute o "index" apos) [e] [] cpos) (lft X.K Z (dOp gTIndex fo fe)) := by
  refine ⟨fun pins s σ H Q I h => ?_⟩
  obtain ⟨M, sl, d, sl', rl, hf, k⟩ := h
  obtain ⟨d1, s1, d2, h1, h2, h3⟩ := dOp_some hf
  refine wpAny_Call_method_late hbase hfew hline rfl (thn (ho.run pins s σ H (fun v H1 => Kq Z M H M H1 ∧ Rel X.K Z M σ H1 s1 ∧ Dt X.K (Mu Z M) H1 v d1) I ⟨M, sl, d1, s1, rl, h1, fun v H' k1 r1 t1 => ⟨k1, r1, t1⟩⟩) ?_)
  rintro v st1 ⟨x, H1, I1, rx, k1, r1, t1⟩
  unfold gTIndex at h3
  split at h3
  case h_2 => cases h3
  rename_i ds key
  simp only [Option.bind_eq_some_iff] at h3
  obtain ⟨ys, e1, e2⟩ := h3
  split at e2
  case isFalse => cases e2
  rename_i there
  cases e2
  obtain ⟨a, xs, rfl, hq, u1⟩ := t1.tuple
  cases rx
  obtain ⟨ob, g1, g2, g3⟩ := t1.tupNo I1
  refine ⟨"tuple", "tuple.index", PySem.F.plainAttrs_tuple, PySem.F.slot_tuple_index, PySem.F.type_tuple_index, ⟨ob, g1, g2⟩, fun b eb => (by cases eb; exact ⟨ob, g1, g3⟩), ?_⟩
  have hA := (pa_cons ha pa_nil hs).run cpos pins st1 σ H1 (fun vs H2 => ∃ v2, vs = [v2] ∧ Kq Z M H1 M H2 ∧ Rel X.K Z M σ H2 sl' ∧ Dt X.K (Mu Z M) H2 v2 (.str key)) I1
    ⟨M, s1, .str key, sl', r1, h2, fun v2 H2 k2 r2 t2 => ⟨v2, rfl, k2, r2, t2⟩⟩
  rw [hs] at hA ⊢
  refine Calls.callWith_builtin (by show (false || (backTo cpos (starEach [] X.env)).any (·.1)) = false; rw [hplain] <;> rfl) (Calls.evalArgs_plain ?_)
  refine thn hA ?_
  rintro us s2 ⟨vs, H2, I2, r2, v2, rfl, k2, rl2, t2⟩
  obtain ⟨u, rfl, ru⟩ := vals1 r2
  obtain rfl := t2.text
  obtain ⟨tk, rfl⟩ := ru
  have u2 := (t1.mono k2.kp).tuple
  obtain ⟨b, xs2, eb, hq2, u3⟩ := u2
  cases eb
  obtain rfl := strsS_of e1 u3
  obtain ⟨its, r3, pl, hz⟩ := I2.tuple hq2
  exact SeqAt.tuple_index_strs (vs := its) pl (strsAre_of r3) there ⟨.int (ys.idxOf key : Nat), H2, I2.tok _, ⟨_, rfl⟩, k _ H2 (k1.trans k2) rl2 (.int _)⟩
end

/-! ### whole numbers, each once, rising: sorted(set(..)) -/
def insU (x : Int) : List Int → List Int
  | [] => [x]
  | y :: r => if x < y then x :: y :: r else if x = y then y :: r else y :: insU x r
def upS : List Int → List Int
  | [] => []
  | x :: r => insU x (upS r)
theorem mem_insU {x z : Int} : ∀ {l : List Int}, z ∈ insU x l ↔ z = x ∨ z ∈ l
  | [] => by simp [insU]
  | y :: r => by
    unfold insU
    split
    · simp
    · split
      · rename_i e
        subst e
        simp
      · rw [List.mem_cons, mem_insU (l := r), List.mem_cons]
        constructor <;> (intro h; rcases h with h | h | h <;> simp [h])
theorem insU_up {x : Int} : ∀ {l : List Int}, l.Pairwise (· < ·) → (insU x l).Pairwise (· < ·)
  | [], _ => by simp [insU]
  | y :: r, h => by
    unfold insU
    split
    · rename_i lt
      refine List.pairwise_cons.mpr ⟨fun z hz => ?_, h⟩
      rcases List.mem_cons.mp hz with e | e
      · rw [e]; exact lt
      · exact Int.lt_trans lt (List.rel_of_pairwise_cons h e)
    · split
      · exact h
      · rename_i n1 n2
        refine List.pairwise_cons.mpr ⟨fun z hz => ?_, insU_up (List.Pairwise.of_cons h)⟩
        rcases mem_insU.mp hz with e | e
        · rw [e]; omega
        · exact List.rel_of_pairwise_cons h e
theorem mem_upS {z : Int} : ∀ {l : List Int}, z ∈ upS l ↔ z ∈ l
  | [] => by simp [upS]
  | x :: r => by rw [upS, mem_insU, mem_upS, List.mem_cons]
theorem upS_up : ∀ l : List Int, (upS l).Pairwise (· < ·)
  | [] => List.Pairwise.nil
  | x :: r => insU_up (upS_up r)
theorem up_one : ∀ {l m : List Int}, l.Pairwise (· < ·) → m.Pairwise (· < ·) → (∀ z, z ∈ l ↔ z ∈ m) → l = m
  | [], [], _, _, _ => rfl
  | [], y :: m, _, _, h => by have := (h y).mpr List.mem_cons_self; cases this
  | x :: l, [], _, _, h => by have := (h x).mp List.mem_cons_self; cases this
  | x :: l, y :: m, hl, hm, h => by
    have e : x = y := by
      rcases List.mem_cons.mp ((h x).mp List.mem_cons_self) with a | a
      · exact a
      · rcases List.mem_cons.mp ((h y).mpr List.mem_cons_self) with b | b
        · exact b.symm
        · have := List.rel_of_pairwise_cons hm a
          have := List.rel_of_pairwise_cons hl b
          omega
    subst e
    refine congrArg (x :: ·) (up_one (List.Pairwise.of_cons hl) (List.Pairwise.of_cons hm) fun z => ⟨fun hz => ?_, fun hz => ?_⟩)
    · have lt := List.rel_of_pairwise_cons hl hz
      rcases List.mem_cons.mp ((h z).mp (List.mem_cons_of_mem _ hz)) with a | a
      · omega
      · exact a
    · have lt := List.rel_of_pairwise_cons hm hz
      rcases List.mem_cons.mp ((h z).mpr (List.mem_cons_of_mem _ hz)) with a | a
      · omega
      · exact a
def intsOf : List PyData → Option (List Int)
  | [] => some []
  | .int z :: r => (intsOf r).map (z :: ·)
  | _ => none
theorem intsOf_map : ∀ {ds : List PyData} {ns : List Int}, intsOf ds = some ns → ds = ns.map .int
  | [], _, e => by cases e; rfl
  | d :: ds, ns, e => by
    unfold intsOf at e
    split at e
    · rename_i q; cases q
    · rename_i z r q
      cases q
      simp only [Option.map_eq_some_iff] at e
      obtain ⟨zs, e1, rfl⟩ := e
      rw [intsOf_map e1]
      rfl
    · cases e
theorem intsOf_of : ∀ ns : List Int, intsOf (ns.map .int) = some ns
  | [] => rfl
  | n :: r => by simp [intsOf, intsOf_of r]
def gSortSet : PyData → Option PyData
  | .list ds => (intsOf ds).bind fun ns => if ns.length < 64 then some (.list ((upS ns).map .int)) else none
  | _ => none
section
variable {X : Cx} {Z : Par} {fa : DE}
theorem dsortset {a : Expr} {p p2 q pos : Pos} (hc : X.calm = true) (hg : Gl X "sorted") (hm : X.mg "sorted" = none) (hg2 : Gl X "set") (hm2 : X.mg "set" = none) (ha : PE X a (lft X.K Z fa))
    (na : starEach [a] X.env = (false, eval a X.env) :: starEach [] X.env := by rfl) (nb : starEach [.Call (.Name "set" p2) [a] [] q] X.env = (false, eval (.Call (.Name "set" p2) [a] [] q) X.env) :: starEach [] X.env := by rfl)
    (hpl : (backTo q (starEach [] X.env)).any (·.1) = false := by rfl) (hpl2 : (backTo pos (starEach [] X.env)).any (·.1) = false := by rfl) : PE X (.Call (.Name "sorted" p) [.Call (.Name "set" p2) [a] [] q] [] pos) (lft X.K Z (dUn gSortSet fa)) :=
  PEimp (pe_callB (cr_sortedSet hc) hg hm (by decide +kernel) (pa_cons (pe_callTy (cr_setZ hc) hg2 hm2 (by decide +kernel) (pa_cons ha pa_nil na) (by decide) (by decide) na hpl) pa_nil nb) (by decide) (by decide) nb hpl2) fun σ H Q h => by
    obtain ⟨M, s, d, s', rl, hf, k⟩ := h
    obtain ⟨d1, f1, g1⟩ := dUn_some hf
    unfold gSortSet at g1
    split at g1
    case h_2 => cases g1
    rename_i ds
    simp only [Option.bind_eq_some_iff] at g1
    obtain ⟨ns, e1, e2⟩ := g1
    split at e2
    case isFalse => cases e2
    rename_i few
    cases e2
    refine ⟨M, s, _, s', rl, f1, fun v H1 k1 r1 t1 => ?_⟩
    obtain ⟨l, xs, rfl, hq, u1⟩ := t1.list
    obtain rfl := intsOf_map e1
    obtain rfl := u1.ints
    refine ⟨l, ns, rfl, hq, few, fun p2 c hp2 hc2 => ⟨p2, _, c, rfl, upd_same, hc2, fun ns' p3 up mem len hp3 => ?_⟩⟩
    obtain rfl : ns' = upS ns := up_one up (upS_up ns) fun z => by rw [mem z, mem_upS, decide_eq_true_iff]
    have r2 := r1.grow (grow_new (o := SetO X.w p2 (fun j => decide (j ∈ ns)) c) hp2)
    exact k _ _ (k1.trans ((kq_grow (grow_new hp2)).trans (kq_grow (grow_new hp3)))) (r2.grow (grow_new hp3)) (dt_newL r2.muT hp3 (dtAll_ints _))
end

/-! ### a value as a test: lists, tuples, texts, whole numbers -/
def truD : PyData → Option Bool
  | .none => some false
  | .bool b => some b
  | .int i => some (i != 0)
  | .str x => if x.length ≤ sizeLine then some (decide (x.length ≠ 0)) else none
  | .list ds => some (!ds.isEmpty)
  | .tuple ds => some (!ds.isEmpty)
  | _ => none
def dTru (f : DE) : DT := fun s => (f s).bind fun p => (truD p.1).map fun b => (b, p.2)
theorem isEmpty_dt {K : PySem.W.Frag} {mu : Addr → Prop} {H : Hp} {vs : List V} {ds : List PyData} (t : DtAll K mu H vs ds) : (!vs.isEmpty) = !ds.isEmpty := by
  cases t <;> rfl
section
variable {X : Cx} {Z : Par} {e : Expr} {fa : DE}
theorem dtru (h : PE X e (lft X.K Z fa)) (he : ∀ whole, isTrue e X.env whole = (do let v ← whole; standAt e.pos; holding [v] (truthy v)) := by intro _; rfl) : PT X e (lfT X.K Z (dTru fa)) := PTimp (pt_truth h he) fun σ H Q h => by
  obtain ⟨M, s, b, s', rl, hf, k⟩ := h
  unfold dTru at hf
  simp only [Option.bind_eq_some_iff, Option.map_eq_some_iff] at hf
  obtain ⟨⟨d, s1⟩, h1, b1, h2, h3⟩ := hf
  cases h3
  refine ⟨M, s, d, _, rl, h1, fun v H1 k1 r1 t1 => ⟨b, ?_, k H1 k1 r1⟩⟩
  have h2 : truD d = some b := h2
  cases d with
  | none => cases h2; rw [t1.none_]; rfl
  | bool c => cases h2; rw [t1.bool]; rfl
  | int i => cases h2; rw [t1.inti]; rfl
  | str x =>
    unfold truD at h2
    dsimp only at h2
    split at h2
    · rename_i few
      cases h2
      rw [t1.text]
      refine ⟨few, ?_⟩
      by_cases z : x.length = 0
      · rw [z]; rfl
      · have : ((x.length : Int) != 0) = true := by rw [bne_iff_ne]; omega
        rw [this]; simp [z]
    · cases h2
  | list ds =>
    cases h2
    obtain ⟨a, xs, rfl, q, u⟩ := t1.list
    exact .inl ⟨xs, q, (isEmpty_dt u).symm⟩
  | tuple ds =>
    cases h2
    obtain ⟨a, xs, e, q, u⟩ := t1.tuple
    subst e
    exact .inr (.inl ⟨xs, q, (isEmpty_dt u).symm⟩)
  | dict ds => cases h2
end

/-! ### a text among anything; a tuple of anything == a tuple of texts -/
def txE (z : Str) (u : Value) : Bool := match u with
  | .str y _ => y == z
  | _ => false
theorem txE_of {z : Str} {x : V} {u : Value} (r : RelV x u) : txE z u = isTx z x := by
  cases x <;> first | (cases r; rfl) | (obtain ⟨t, rfl⟩ := r; rfl)
theorem mem_txE {X : Cx} {pins : List (Addr × Obj)} {σ : L2.St} {H : Hp} {s : Shared} (I : Inv X pins σ H s) {A : Around} (hu : A.units < cLine) {z : Str} {t : Tok} : ∀ {xs : List V} {us : List Value}, Vals xs us → (∀ w ∈ xs, Okv X.K H w) →
    ∀ u ∈ us, SeqAt.EqAt A s u (.str z t) (txE z u)
  | _, _, .nil, _ => fun u hu => by cases hu
  | _, _, .cons r rest, ok => fun u hm => by
    rcases List.mem_cons.mp hm with e | hm
    · rw [e, txE_of r]
      exact eq_text1 I hu r (ok _ List.mem_cons_self)
    · exact mem_txE I hu rest (fun w hw => ok w (List.mem_cons_of_mem _ hw)) u hm
theorem any_txE {z : Str} : ∀ {xs : List V} {us : List Value}, Vals xs us → us.any (txE z) = xs.any (isTx z)
  | _, _, .nil => rfl
  | _, _, .cons r t => by rw [List.any_cons, List.any_cons, any_txE t, txE_of r]
def rInR (K : PySem.W.Frag) : R2 := fun x y H Q => ∃ z p xs, x = .str z ∧ y = .ref p ∧ SqT K H p xs ∧ (∀ w ∈ xs, Okv K H w) ∧ Q (.bl (xs.any (isTx z))) H
theorem op_inR {X : Cx} (hu : X.A.units + 1 < cLine) : OpR X (compareOp .In) (rInR X.K) := by
  rintro pins s σ H x y v u Q I rx ry ⟨z, p, xs, rfl, rfl, hq, ok, q⟩
  cases ry
  obtain ⟨t, rfl⟩ := rx
  obtain ⟨its, r, pl, _⟩ := I.tuple hq
  refine SeqAt.in_tupleAt (txE z) pl (fun w hw => mem_txE I hu r ok w (by simpa using hw)) ⟨.bl _, H, I, rfl, ?_⟩
  rw [show its.toArray.any (txE z) = its.any (txE z) by simp, any_txE r]
  exact q
def gInR : PyData → PyData → Option PyData
  | .str z, .tuple ds => if ds.all plainD = true then some (.bool (ds.any fun d => PyData.eqv d (.str z))) else none
  | _, _ => none
section
variable {K : PySem.W.Frag} {mu : Addr → Prop} {H : Hp}
theorem isTx_dt {v : V} {d : PyData} (t : Dt K mu H v d) (z : Str) : isTx z v = PyData.eqv d (.str z) := by
  cases t with
  | str x =>
    show (x == z) = decide (_ = _)
    rw [Bool.eq_iff_iff, beq_iff_eq, decide_eq_true_eq]
  | _ => simp [isTx, PyData.eqv]
theorem okvs_of : ∀ {vs : List V} {ds : List PyData}, DtAll K mu H vs ds → ds.all plainD = true → ∀ w ∈ vs, Okv K H w
  | _, _, .nil, _ => fun w hw => by cases hw
  | _, _, .cons h t, e => fun w hw => by
    rw [List.all_cons, Bool.and_eq_true] at e
    rcases List.mem_cons.mp hw with z | z
    · rw [z]; exact okv_of h e.1
    · exact okvs_of t e.2 w z
theorem any_isTx (z : Str) : ∀ {vs : List V} {ds : List PyData}, DtAll K mu H vs ds → vs.any (isTx z) = ds.any fun d => PyData.eqv d (.str z)
  | _, _, .nil => rfl
  | _, _, .cons h t => by rw [List.any_cons, List.any_cons, any_isTx z t, isTx_dt h]
theorem ok_inR : OpOk K (rInR K) gInR := fun mu H x y d1 d2 d Q hm t1 t2 e k => by
  unfold gInR at e
  split at e
  · split at e
    · rename_i z ds c
      cases e
      obtain ⟨a, xs, e2, hq, u⟩ := t2.tuple
      refine ⟨z, a, xs, t1.text, e2, hq, okvs_of u c, ?_⟩
      rw [any_isTx z u]
      exact k _ H (fun _ _ z => z) (.bl _)
    · cases e
  · cases e
def eqTs : List PyData → List Str → Bool
  | [], [] => true
  | d :: ds, z :: zs => PyData.eqv d (.str z) && eqTs ds zs
  | _, _ => false
theorem eqTs_iff : ∀ {ds : List PyData} {zs : List Str}, eqTs ds zs = true ↔ ds.length = zs.length ∧ ∀ (j : Nat) d z, ds[j]? = some d → zs[j]? = some z → PyData.eqv d (.str z) = true
  | [], [] => by simp [eqTs]
  | [], z :: zs => by simp [eqTs]
  | d :: ds, [] => by simp [eqTs]
  | d :: ds, z :: zs => by
    rw [eqTs, Bool.and_eq_true, eqTs_iff (ds := ds) (zs := zs), List.length_cons, List.length_cons]
    constructor
    · rintro ⟨h1, h2, h3⟩
      refine ⟨by omega, fun j d' z' e1 e2 => ?_⟩
      cases j with
      | zero => simp at e1 e2; subst e1 e2; exact h1
      | succ j => exact h3 j d' z' (by simpa using e1) (by simpa using e2)
    · rintro ⟨h1, h2⟩
      exact ⟨h2 0 d z rfl rfl, by omega, fun j d' z' e1 e2 => h2 (j + 1) d' z' (by simpa using e1) (by simpa using e2)⟩
def gEqTS : PyData → PyData → Option PyData
  | .tuple ds, .tuple es => if ds.all plainD = true then (strsS es).map fun zs => .bool (eqTs ds zs) else none
  | _, _ => none
/-- the answer at a place -/
def eqAt' (xs : List V) (zs : List Str) (j : Nat) : Bool := match xs[j]?, zs[j]? with
  | some x, some z => isTx z x
  | _, _ => true
def rEqTS (K : PySem.W.Frag) : R2 := fun x y H Q => ∃ a b xs zs, x = .ref a ∧ y = .ref b ∧ SqT K H a xs ∧ SqT K H b (zs.map V.str) ∧ (∀ w ∈ xs, Okv K H w) ∧ Q (.bl ((List.range (min xs.length zs.length)).all (eqAt' xs zs) && xs.length == zs.length)) H
theorem op_eqTS {X : Cx} (hu : X.A.units + 1 < cLine) : OpR X (compareOp .Eq) (rEqTS X.K) := by
  rintro pins s σ H x y v u Q I rx ry ⟨a, b, xs, zs, rfl, rfl, h1, h2, ok, q⟩
  cases rx
  cases ry
  obtain ⟨its, r1, p1, _⟩ := I.tuple h1
  obtain ⟨its2, r2, p2, _⟩ := I.tuple h2
  have l1 := r1.length
  have l2 := r2.length
  rw [List.length_map] at l2
  have hl1 : its.toArray.size = xs.length := by simpa using l1.symm
  have hl2 : its2.toArray.size = zs.length := by simpa using l2.symm
  refine SeqAt.rcIn_tuples (e := eqAt' xs zs) p1 p2 (by omega) (fun j g1 g2 => ?_) ⟨.bl ((List.range (min xs.length zs.length)).all (eqAt' xs zs) && xs.length == zs.length), H, I, by rw [hl1, hl2]; rfl, q⟩
  have i1 : j < xs.length := by omega
  have i2 : j < zs.length := by omega
  obtain ⟨w, e1, rw1⟩ := r1.get (List.getElem?_eq_getElem i1)
  obtain ⟨w2, e2, rw2⟩ := r2.get (x := .str zs[j]) (by rw [List.getElem?_map, List.getElem?_eq_getElem i2]; rfl)
  have f1 : its.toArray[j] = w := by
    have : its[j]? = some its.toArray[j] := by simp [List.getElem?_eq_getElem (show j < its.length by simpa using g1)]
    rw [this] at e1
    exact Option.some.inj e1
  have f2 : its2.toArray[j] = w2 := by
    have : its2[j]? = some its2.toArray[j] := by simp [List.getElem?_eq_getElem (show j < its2.length by simpa using g2)]
    rw [this] at e2
    exact Option.some.inj e2
  rw [f1, f2]
  obtain ⟨t, rfl⟩ := rw2
  have q1 := eq_text1 I (A := X.A.in1) (z := zs[j]) (t := t) (show X.A.in1.units < cLine from hu) rw1 (ok _ (List.getElem_mem i1))
  have e : eqAt' xs zs j = isTx zs[j] xs[j] := by unfold eqAt'; rw [List.getElem?_eq_getElem i1, List.getElem?_eq_getElem i2]
  rw [e]
  exact q1.inModel _ _
theorem ok_eqTS : OpOk K (rEqTS K) gEqTS := fun mu H x y d1 d2 d Q hm t1 t2 e k => by
  unfold gEqTS at e
  split at e
  · split at e
    · rename_i ds es c
      simp only [Option.map_eq_some_iff] at e
      obtain ⟨zs, e1, rfl⟩ := e
      obtain ⟨a, xs, ea, hq, u⟩ := t1.tuple
      obtain ⟨b, ys, eb, hq2, u2⟩ := t2.tuple
      obtain rfl := strsS_of e1 u2
      refine ⟨a, b, xs, zs, ea, eb, hq, hq2, okvs_of u c, ?_⟩
      have fin : ((List.range (min xs.length zs.length)).all (eqAt' xs zs) && xs.length == zs.length) = eqTs ds zs := by
        rw [Bool.eq_iff_iff, eqTs_iff, Bool.and_eq_true, beq_iff_eq, ← u.len, List.all_eq_true]
        constructor
        · rintro ⟨h1, h2⟩
          refine ⟨h2, fun j d z g1 g2 => ?_⟩
          obtain ⟨w, w1, w2⟩ := u.get g1
          obtain ⟨jl, _⟩ := List.getElem?_eq_some_iff.mp w1
          have := h1 j (List.mem_range.mpr (by omega))
          unfold eqAt' at this
          rw [w1, g2] at this
          rw [← isTx_dt w2]
          exact this
        · rintro ⟨h1, h2⟩
          refine ⟨fun j hj => ?_, h1⟩
          have hj' := List.mem_range.mp hj
          have i1 : j < xs.length := by omega
          have i2 : j < zs.length := by omega
          obtain ⟨d, w1, w2⟩ := u.getv (List.getElem?_eq_getElem i1)
          unfold eqAt'
          rw [List.getElem?_eq_getElem i1, List.getElem?_eq_getElem i2]
          show isTx _ _ = true
          rw [isTx_dt w2]
          exact h2 j _ _ w1 (List.getElem?_eq_getElem i2)
      rw [fin]
      exact k _ H (fun _ _ z => z) (.bl _)
    · cases e
  · cases e
end
end Dl

/-! the law walked, the hidden place the table of another def's code object -/
namespace Dl
open PySem PySem.Spec PyProof.Rows L2
section
variable {P : Program} {w : World} {K : PySem.W.Frag} {mg mb : Str → Option Value}
theorem law_hereN {x p q : Str} {st : Stmt} {fa a c0 c T : Addr} {fd : FuncData} {N : List Str} {k : Nat} {b : DS} {s₁ : Shared} {vs : List Value} {ns : List Int}
    (KX : K.In s₁.heap) (hns : s₁.heap.Ns mainGlobals mg) (hbl : s₁.heap.Ns builtinsNs mb) (hbb : ∀ y : Str, y ≠ "__name__" → mb y = bootBuiltins y) (hlim : s₁.heap.NoLimit) (hmo : ∃ mm, s₁.heap.Ns sysModules mm) (hg : s₁.gens = #[])
    (ha : s₁.heap.get? a = some { cls := .type "list", data := .seq vs.toArray }) (hi : IntsAre vs ns) (few : ns.length ≤ sizeLine) (room : Room (k + 1) callerA) (F : Fun K x x st fa fd) (S : FnScope N [p] (defScope st)) (bt : ∀ (s : Shared) (u : Value), BindsTo s fd ⟨[u], []⟩ [(p, u)])
    (hT : s₁.heap.get? T = some { cls := .none, data := .fields #[] }) (nT : K.lookup T = none) (C : PySem.W.CodeHd s₁.heap c T) (hcd : fd.code = .ref c0)
    (hbm : ∃ (bm : Addr) (ob : Obj), mg "__builtins__" = some (.ref bm) ∧ bm ≠ builtinsNs ∧ s₁.heap.get? bm = some ob ∧ ob.cls = .type "module" ∧ ob.dict = some builtinsNs ∧ ob.data = .plain) (len2 : 2 ≤ N.length)
    (body : ∀ (base : Heap) (s : Shared) (H : Hp) (Z : Par), Mod K mg base → Room k (callerA.deeper (envOfC x (defScope st) s.heap.objs.size fa (.ref c0))) → CG (cxOf CX0 P w K mg base N x (defScope st) fa (.ref c0) callerA [] s H E0).nox → LamX.TabB base mg c T → Z.p[0]? = some T →
      PSs (cxOf CX0 P w K mg base N x (defScope st) fa (.ref c0) callerA [] s H E0).nox (defBody st) (lfS K Z b))
    (true_ : fnT N q 1 b [.dict [(.none, .list (ns.map .int))]] = some (.bool true)) :
    codeAny (model P w) callerA (.call (.ref fa) ⟨[.ref a], []⟩) (fun r s' => r = .ok (.ret (.bool true)) ∧ OldK s₁.heap s'.heap ∧ s'.os = s₁.os ∧ AllBare s'.gens) s₁ := by
  obtain ⟨G, gok, hG, here⟩ := script_in (P := P) (w := w) KX ha hi few
  have aT : T ≠ a := fun e => by
    rw [e, ha] at hT
    cases hT
  have gT : G T = none := by
    cases z : G T with
    | none => rfl
    | some u => exact absurd (hG T u z).1 aT
  let H : Hp := upd G T (.tbl #[])
  have atT : H T = some (.tbl #[]) := upd_same
  have elseT : ∀ b, b ≠ T → H b = G b := fun b h => upd_ne h
  have fromG : ∀ b u, G b = some u → H b = some u := grow_new gT
  have hH : ∀ b u, H b = some u → b = T ∧ u = .tbl #[] ∨ (b = a ∧ K.lookup a = none ∧ ∃ o u', u = .frz o u') := fun b u z => by
    by_cases e : b = T
    · subst e
      rw [atT] at z
      cases z
      exact .inl ⟨rfl, rfl⟩
    · rw [elseT b e] at z
      obtain ⟨rfl, h2⟩ := hG b u z
      exact .inr ⟨rfl, h2⟩
  have hok : HOk P w H s₁.heap := fun b u z => by
    rcases hH b u z with ⟨rfl, rfl⟩ | ⟨rfl, _, o, u', rfl⟩
    · exact hT
    · rw [elseT b (fun e => aT e.symm)] at z
      exact (gok b _ z).stay (fun _ _ _ r => r) (fun c r => fromG _ _ r) fun c xs r => fromG _ _ r
  have free_of : ∀ {b : Addr} {o : Obj}, s₁.heap.get? b = some o → (∀ vs n, o.data ≠ .seq vs n) → o.data ≠ .fields #[] → H b = none := fun {b o} e h1 h2 => by
    cases z : H b with
    | none => rfl
    | some u =>
      rcases hH b u z with ⟨rfl, _⟩ | ⟨rfl, _⟩
      · rw [hT] at e
        cases e
        exact absurd rfl h2
      · rw [ha] at e
        cases e
        exact absurd rfl (h1 _ _)
  have dict_free : ∀ {b : Addr} {o : Obj} {es : Array DictEntry} {n : Nat}, s₁.heap.get? b = some o → o.data = .dict es n → H b = none := fun {b o es n} e d => free_of e (fun _ _ z => by rw [d] at z; cases z) (fun z => by rw [d] at z; cases z)
  have ns_in : ∀ {b : Addr} {m : Str → Option Value}, s₁.heap.Ns b m → (hidT s₁.heap H).Ns b m := fun ⟨o, es, n, e, d, r⟩ => ⟨o, es, n, hidT_get e (dict_free e d), d, r⟩
  have mod : Mod K mg (hidT s₁.heap H) := {
    kin := fun b o e => hidT_get (KX b o e) (by
      cases z : H b with
      | none => rfl
      | some u =>
        rcases hH b u z with ⟨rfl, _⟩ | ⟨rfl, q, _⟩
        · rw [nT] at e; cases e
        · rw [q] at e; cases e)
    glob := ns_in hns
    blt := ⟨mb, ns_in hbl, hbb⟩
    nolimit := let ⟨mc, q1, q2⟩ := hlim; ⟨mc, ns_in q1, q2⟩ }
  have TB : LamX.TabB (hidT s₁.heap H) mg c T := by
    refine ⟨?_, ?_, fun z => ?_⟩
    · obtain ⟨o, us, file, tf, flags, tg, inF, text, tt, e1, r1, r2, r3, r4, r5, r6, r7, r8, hne⟩ := C
      refine ⟨o, us, file, tf, flags, tg, inF, text, tt, hidT_get e1 (free_of e1 (fun vs n z => ?_) fun z => ?_), r1, r2, r3, r4, r5, r6, r7, r8, hne⟩
      · rw [r2] at z; cases z
      · rw [r2] at z
        cases z
        simp at r3
    · obtain ⟨bm, ob, b1, b2, b3, b4, b5, b6⟩ := hbm
      refine ⟨bm, ob, b1, b2, fun e => ?_, fun e => ?_, hidT_get b3 (free_of b3 (fun vs n z => ?_) fun z => ?_), b4, b5, b6⟩
      · obtain ⟨o, es, n, e3, d, _⟩ := hns
        rw [e, e3] at b3
        cases b3
        rw [d] at b6
        cases b6
      · rw [e, hT] at b3
        cases b3
        cases b6
      · rw [b6] at z; cases z
      · rw [b6] at z; cases z
    · obtain ⟨o, es, n, e, d, _⟩ := hns
      rw [z, hT] at e
      cases e
      cases d
  have e0 : Env0 P w K mg (hidT s₁.heap H) callerA [] s₁ H := ⟨rfl, mod, fun _ _ e => of_hidT e, by rw [hidT_size]; exact Nat.le_refl _, trivial, fun c hc => (by cases hc), hok, .of_eq hg⟩
  have sys : ∃ o es n, (hidT s₁.heap H).get? sysModules = some o ∧ o.data = .dict es n := by
    obtain ⟨mm, o, es, n, e, d, _⟩ := hmo
    exact ⟨o, es, n, hidT_get e (dict_free e d), d⟩
  let Z : Par := ⟨H, [T], fun _ => False, by simp⟩
  have only : ∀ b, Mu Z [] b → b = T := fun b z => by
    rcases z with z | z | z
    · exact z.elim
    · exact ((List.mem_singleton.mp z).symm).symm
    · cases z
  have td : Dt K (Mu Z []) H (.ref a) (.dict [(.none, .list (ns.map .int))]) := .scr (here.imp (fun z => ⟨z.imp (fun z => fromG _ _ z) fun ⟨o, z⟩ => ⟨o, fromG _ _ z⟩, fun z => aT (only a z).symm⟩) id) (dtAll_ints ns)
  have rel : Rel K Z [] (L2.start N [.ref a]) H (startT N q [.dict [(.none, .list (ns.map .int))]]) := by
    refine ⟨fun _ _ e _ => e, fun _ z => (by cases z), fun _ z => z.elim, fun b z => ⟨_, ((List.mem_singleton.mp z).symm) ▸ atT⟩, ?_⟩
    obtain ⟨n, hn⟩ : ∃ n, N.length = n + 2 := ⟨N.length - 2, by omega⟩
    have e1 : L2.start N [.ref a] = some (.ref a) :: List.replicate (n + 1) none := by
      unfold L2.start
      rw [List.length_singleton, hn]
      rfl
    have e2 : startT N q [.dict [(.none, .list (ns.map .int))]] = .dat (.dict [(.none, .list (ns.map .int))]) :: (List.replicate n .no ++ [.tab 0 q]) := by
      unfold startT
      rw [List.length_singleton, hn]
      rfl
    rw [e1, e2]
    exact .dat td (slAll_tab atT n)
  have ready : lfS K Z b { nx := fun _ H' => False, rt := fun v _ => v = .bl true } (L2.start N [.ref a]) H := by
    have tr : outP (b (startT N q [.dict [(.none, .list (ns.map .int))]])) = some (.bool true) := by
      unfold fnT at true_
      rw [if_pos (show [PyData.dict [(PyData.none, PyData.list (ns.map PyData.int))]].length = 1 from rfl)] at true_
      exact true_
    clear true_
    unfold outP at tr
    split at tr
    · rename_i d1 s1 hq
      cases tr
      exact ⟨_, _, _, rel, hq, fun M σ H1 v k1 r1 t1 => t1.bool⟩
    · cases tr
    · cases tr
  obtain ⟨⟨oc, od, kV, doc, pm, an, cdv, ct, osl, e1, lk, hcdv⟩, kp⟩ := F
  subst e1
  have ecd : cdv = .ref c0 := hcd
  subst ecd
  have slots : ∀ y ∈ [(p, Value.ref a)], (defScope st).names.lookup y.1 = some .local ∨ ((defScope st).names.lookup y.1 = some .cell ∧ ((cellsFrom (s₁.heap.objs.size + 1) (defScope st).names []).lookup y.1).isSome = true) := fun y hy => by
    obtain rfl := List.mem_singleton.mp hy
    exact (S.par p (List.mem_singleton.mpr rfl)).imp id fun z => ⟨z, PySem.W.cellsFrom_some _ _ _ (.inl z)⟩
  have ran : codeAny (model P w) callerA (.call (.ref fa) ⟨[.ref a], []⟩) (CR CX0 [] P w H s₁ (fun v _ => v = .bl true) E0) s₁ := by
    refine codeAny_call_function room.depth (KX _ _ lk) rfl S.co S.gen rfl (PySem.W.codeRec_of KX hcdv) (bt s₁ (.ref a) _ _ _ _ (wpAny_newFunctionEnv_cells S.kind slots fun env he t0 io => ?_))
    cases he
    refine ⟨hlim.keeps io.toInCall.keep, codeAny_func ?_⟩
    have begun : Inv (cxOf CX0 P w K mg (hidT s₁.heap H) N x (defScope st) fa (.ref c0) callerA [] s₁ H E0) [] (L2.start N [.ref a]) H t0 := inv_start S room.hd e0 rfl (.cons rfl .nil) io
    refine wpAny_mono ((body _ s₁ H Z mod (room.deeper _) ⟨rfl, by show 4 + 3 + 100 < 9900; omega, sys⟩ TB rfl).nox.run [] t0 _ H _ begun ready) (fun fl t1 done => ?_) fun _ _ z => z
    match fl, done with
    | .ret u, ⟨v, σ', H', J, rv, q⟩ => exact ⟨v, H', J.os, J.bare, J.base, J.hok, rv, q⟩
    | .next, ⟨_, _, _, z⟩ => exact z.elim
    | .brk, ⟨_, _, _, z⟩ => exact z.elim
    | .cont, ⟨_, _, _, z⟩ => exact z.elim
  refine codeAny_mono ran fun r t1 done => ?_
  match r, done with
  | .ok (.ret u), ⟨v, H', os, bare, un, ok', rv, q⟩ =>
    subst q
    obtain rfl : u = .bool true := rv
    obtain ⟨more, hm⟩ := un.tbls T #[] atT
    rw [Array.empty_append] at hm
    have grown : t1.heap.get? T = some { cls := .none, data := .fields more } := ok' T _ hm
    have same : ∀ b o, b ≠ T → s₁.heap.get? b = some o → t1.heap.get? b = some o := fun b o nb e => by
      cases z : H b with
      | none => exact un.keep b o e z (by simp [frs]) List.not_mem_nil
      | some u =>
        rcases hH b u z with ⟨rfl, _⟩ | ⟨rfl, _, o', u', rfl⟩
        · exact absurd rfl nb
        · have now := (ok' b _ (un.frzs b o' u' z)).1
          have was := (hok b _ z).1
          rw [was] at e
          cases e
          exact now
    refine ⟨rfl, ⟨fun b o e => ?_, fun b o e => ?_⟩, os, bare⟩
    · by_cases hb : b = T
      · subst hb
        rw [hT] at e
        cases e
        exact .inr (.inl ⟨(C.tab hT).isCodeTable, rfl, #[], more, rfl, by rw [Array.empty_append]; exact grown⟩)
      · exact .inl (same b o hb e)
    · by_cases hb : b = T
      · exact ⟨_, by rw [hb]; exact grown⟩
      · exact ⟨o, same b o hb e⟩
  | .ok .next, z => exact z.elim
  | .ok .brk, z => exact z.elim
  | .ok .cont, z => exact z.elim
  | .error e, z => exact (show False from z).elim
end
/-- what the head looks at: constants, classes, built-in names of modules -/
def exBn (cs : List (Str × PyData)) (bs : List (Str × String)) (nm ts : List Str) (K : PySem.W.Frag) : Bool := exB cs nm ts K && bs.all (bnB K)
theorem walk_dataN (dd : He.Defn) {l : PySem.W.OpenLaw} {n k : Nat} {q : Program} {loose : List Str} {XP : (Str → Option Value) → Heap → Prop} {d : DefRec} {fa : List He.Fa} {fn : List He.DefD} {cs : List (Str × PyData)} {bs : List (Str × String)} {nm ts : List Str} {m : Nat} {p qq : Str} {st : Stmt} {N : List Str} {b : DS}
    (most : l.most = some n) (few : n ≤ sizeLine) (hdf : d.params.defaults = []) (name : d.name = "law") (alone : importsNone q = true) (room : Room (k + 1) callerA) (S : FnScope N [p] (defScope st)) (len2 : 2 ≤ N.length)
    (F : ∀ (w : World) (mg : Str → Option Value) (h : Heap) (K : PySem.W.Frag), K.In h → h.Ns mainGlobals mg → He.SaysD fa fn K → cs.all (gcB K) = true → bs.all (bnB K) = true → ExF K mg nm ts → ∃ fd : FuncData, mg "law" = some (.ref (He.fAd K lawD)) ∧ Fun K "law" "law" st (He.fAd K lawD) fd ∧ (∀ (s : Shared) (u : Value), BindsTo s fd ⟨[u], []⟩ [(p, u)]) ∧
      ∀ (base : Heap) (c0 T : Addr) (s : Shared) (H : Hp) (Z : Par), Mod K mg base → Room k (callerA.deeper (envOfC "law" (defScope st) s.heap.objs.size (He.fAd K lawD) (.ref c0))) → CG (cxOf CX0 l.prog w K mg base N "law" (defScope st) (He.fAd K lawD) (.ref c0) callerA [] s H E0).nox → LamX.TabB base mg (He.codeOf K dd) T → Z.p[0]? = some T →
        PSs (cxOf CX0 l.prog w K mg base N "law" (defScope st) (He.fAd K lawD) (.ref c0) callerA [] s H E0).nox (defBody st) (lfS K Z b))
    (T : ∀ ns : List Int, ns.length ≤ n → fnT N qq 1 b [.dict [(.none, .list (ns.map .int))]] = some (.bool true)) :
    PySem.W.WalkO q loose XP (He.hookX m fa fn [] [dd] (exBn cs bs nm ts)).says l.row.toRowW d [] (fun f vs => PySem.call f vs) := by
  refine Att.attach_call most hdf fun w s₀ s₁ mg mb f o pm cd doc a vs ns G Y _ _ _ hmg hobj hints hlen hg => ?_
  obtain ⟨K, X, Sy⟩ := Y
  have more2 := Sy.more
  unfold exBn at more2
  rw [Bool.and_eq_true] at more2
  have more := more2.1
  unfold exB at more
  rw [Bool.and_eq_true] at more
  obtain ⟨fd, e, Fn, bt, body⟩ := F w mg _ K X G.T.g Sy.t.d more.1 more2.2 (exF_of X G.T.g more.2)
  rw [name] at hmg
  obtain rfl : f = He.fAd K lawD := Value.ref.inj (Option.some.inj (hmg.symm.trans e))
  obtain ⟨mm, sees, _⟩ := (G.T.seer alone).mods
  obtain ⟨c, hc⟩ : ∃ c, fd.code = .ref c := by
    obtain ⟨⟨oc, od, kV, doc, pm, an, cdv, ct, osl, e1, lk, hcdv⟩, kp⟩ := Fn
    subst e1
    exact He.codeIn_ref hcdv
  have in1 : dd ∈ [dd] := List.mem_singleton.mpr rfl
  have hd := Sy.hd dd in1
  exact law_hereN X G.T.g G.T.b G.T.builtins G.T.nolimit ⟨mm, sees⟩ hg hobj hints (Nat.le_trans hlen few) room Fn S bt (Sy.empty dd in1) (Sy.out dd in1) (PySem.W.codeHd_of_K X hd) hc G.T.bmain len2 (fun base s H Z M r cg tb hz => body base c _ s H Z M r cg tb hz) (T ns hlen)
end Dl

namespace Dl
open PySem PySem.Spec PyProof.Rows L2

/-! ### a def that changes the two lists handed in first -/
/-- the lists at two names are two lists -/
def apart (s : Sl) (i j : Nat) : Bool := match s[i]?, s[j]? with
  | some (.own _), some (.own _) => decide (i ≠ j)
  | some (.own _), some (.pot _ _) => true
  | some (.pot _ _), some (.own _) => true
  | some (.pot a _), some (.pot b _) => decide (a ≠ b)
  | _, _ => false
section
variable {K : PySem.W.Frag} {mu : Addr → Prop} {q : List Addr} {Z : Par} {M : List Addr} {σ : L2.St} {H : Hp} {s : Sl}
theorem SlAll.own_ne : ∀ {σ : L2.St} {s : Sl} {M : List Addr} {i j : Nat} {ds es : List PyData}, SlAll K mu q H σ s M → s[i]? = some (.own ds) → s[j]? = some (.own es) → i ≠ j → σ[i]? ≠ σ[j]? := by
  intro σ s M i j ds es t
  induction t generalizing i j with
  | nil => intro e; simp at e
  | @own a xs es' σ s M h d n t ih =>
    intro e1 e2 hij
    cases i with
    | zero =>
      cases j with
      | zero => exact absurd rfl hij
      | succ j =>
        intro e
        obtain ⟨b, ys, g1, g2, _⟩ := t.getOwn (i := j) (by simpa using e2)
        simp only [List.getElem?_cons_zero, List.getElem?_cons_succ, g1, Option.some.injEq, V.ref.injEq] at e
        exact n (e ▸ g2)
    | succ i =>
      cases j with
      | zero =>
        intro e
        obtain ⟨b, ys, g1, g2, _⟩ := t.getOwn (i := i) (by simpa using e1)
        simp only [List.getElem?_cons_zero, List.getElem?_cons_succ, g1, Option.some.injEq, V.ref.injEq] at e
        exact n (e ▸ g2)
      | succ j => simpa using ih (i := i) (j := j) (by simpa using e1) (by simpa using e2) (fun z => hij (by rw [z]))
  | dat h t ih => intro e1 e2 hij; cases i with
    | zero => simp at e1
    | succ i => cases j with
      | zero => simp at e2
      | succ j => simpa using ih (i := i) (j := j) (by simpa using e1) (by simpa using e2) (fun z => hij (by rw [z]))
  | no t ih => intro e1 e2 hij; cases i with
    | zero => simp at e1
    | succ i => cases j with
      | zero => simp at e2
      | succ j => simpa using ih (i := i) (j := j) (by simpa using e1) (by simpa using e2) (fun z => hij (by rw [z]))
  | rf t ih => intro e1 e2 hij; cases i with
    | zero => simp at e1
    | succ i => cases j with
      | zero => simp at e2
      | succ j => simpa using ih (i := i) (j := j) (by simpa using e1) (by simpa using e2) (fun z => hij (by rw [z]))
  | pot e0 h d t ih => intro e1 e2 hij; cases i with
    | zero => simp at e1
    | succ i => cases j with
      | zero => simp at e2
      | succ j => simpa using ih (i := i) (j := j) (by simpa using e1) (by simpa using e2) (fun z => hij (by rw [z]))
  | tab e0 h d w t ih => intro e1 e2 hij; cases i with
    | zero => simp at e1
    | succ i => cases j with
      | zero => simp at e2
      | succ j => simpa using ih (i := i) (j := j) (by simpa using e1) (by simpa using e2) (fun z => hij (by rw [z]))
  | dic h n t ih => intro e1 e2 hij; cases i with
    | zero => simp at e1
    | succ i => cases j with
      | zero => simp at e2
      | succ j => simpa using ih (i := i) (j := j) (by simpa using e1) (by simpa using e2) (fun z => hij (by rw [z]))
theorem Rel.apart (r : Rel K Z M σ H s) {i j : Nat} (h : apart s i j = true) {a b : Addr} (ha : σ[i]? = some (some (.ref a))) (hb : σ[j]? = some (some (.ref b))) : a ≠ b := by
  unfold Dl.apart at h
  split at h
  · rename_i d1 d2 h1 h2
    intro e
    exact r.sl.own_ne h1 h2 (of_decide_eq_true h) (by rw [ha, hb, e])
  · rename_i d1 k d2 h1 h2
    obtain ⟨a', xs, g1, g2, _⟩ := r.sl.getOwn h1
    obtain ⟨b', ys, f1, f2, _⟩ := r.sl.getPot h2
    rw [ha] at g1; cases g1
    rw [hb] at f1; cases f1
    exact fun e => (r.fr _ g2).2.1 (e ▸ List.mem_of_getElem? f2)
  · rename_i k d1 d2 h1 h2
    obtain ⟨a', xs, g1, g2, _⟩ := r.sl.getPot h1
    obtain ⟨b', ys, f1, f2, _⟩ := r.sl.getOwn h2
    rw [ha] at g1; cases g1
    rw [hb] at f1; cases f1
    exact fun e => (r.fr _ f2).2.1 (e ▸ List.mem_of_getElem? g2)
  · rename_i k d1 l d2 h1 h2
    obtain ⟨a', xs, g1, g2, _⟩ := r.sl.getPot h1
    obtain ⟨b', ys, f1, f2, _⟩ := r.sl.getPot h2
    rw [ha] at g1; cases g1
    rw [hb] at f1; cases f1
    intro e
    subst e
    exact of_decide_eq_true h ((List.getElem?_inj (List.getElem?_eq_some_iff.mp g2).1 Z.nd).mp (g2.trans f2.symm))
  · cases h
theorem contents_setC {i j : Nat} {ds es : List PyData} (h : apart s i j = true) (c : contents s j = some es) : contents (setC s i ds) j = some es := by
  unfold Dl.apart at h
  split at h
  · rename_i d1 d2 h1 h2
    have ne : i ≠ j := of_decide_eq_true h
    unfold contents setC at *
    rw [h1]
    simp only [List.getElem?_set_ne ne]
    exact c
  · rename_i d1 k d2 h1 h2
    have ne : i ≠ j := fun e => by subst e; rw [h1] at h2; cases h2
    unfold contents setC at *
    rw [h1]
    simp only [List.getElem?_set_ne ne]
    exact c
  · rename_i k d1 d2 h1 h2
    unfold contents setC at *
    rw [h1]
    rw [h2] at c
    simp only [List.getElem?_map, h2, Option.map_some, potUp]
    exact c
  · rename_i k d1 l d2 h1 h2
    unfold contents setC at *
    rw [h1]
    rw [h2] at c
    have ne : ¬ l = k := fun e => of_decide_eq_true h e.symm
    simp only [List.getElem?_map, h2, Option.map_some, potUp, if_neg ne]
    exact c
  · cases h
end
def spM2 (K : PySem.W.Frag) (m : List PyData → List PyData → List PyData → Option (PyData × List PyData × List PyData)) : Sp := fun vs H Q _ => ∃ mu p q xs ys pd qd rest ds d pd' qd', vs = .ref p :: .ref q :: rest ∧ p ≠ q ∧ mu p ∧ mu q ∧ (∀ a, mu a → ∃ o, H a = some o) ∧ H p = some (.lst xs) ∧ H q = some (.lst ys) ∧ DtAll K mu H xs pd ∧ DtAll K mu H ys qd ∧ DtAll K mu H rest ds ∧
  m pd qd ds = some (d, pd', qd') ∧ ∀ v H' xs' ys', (∀ a o, H a = some o → a ≠ p → a ≠ q → H' a = some o) → H' p = some (.lst xs') → H' q = some (.lst ys') → DtAll K mu H' xs' pd' → DtAll K mu H' ys' qd' → Dt K mu H' v d → Q v H'
def dCallM2 (m : List PyData → List PyData → List PyData → Option (PyData × List PyData × List PyData)) (i j : Nat) (g : DA) : DE := fun s => (contents s i).bind fun _ => (contents s j).bind fun _ => (g s).bind fun p => (contents p.2 i).bind fun pd => (contents p.2 j).bind fun qd =>
  if apart p.2 i j = true then (m pd qd p.1).map fun q => (q.1, setC (setC p.2 i q.2.1) j q.2.2) else none
def startM2 (N : List Str) (pd qd ds : List PyData) : Sl := SV.pot 0 pd :: SV.pot 1 qd :: (ds.map SV.dat ++ List.replicate (N.length - 2 - ds.length) .no)
def potOf1 : Option SV → Option (List PyData)
  | some (.pot 1 pd) => some pd
  | _ => none
theorem potOf1_eq {x : Option SV} {pd : List PyData} (h : potOf1 x = some pd) : x = some (.pot 1 pd) := by
  unfold potOf1 at h
  split at h
  · cases h; rfl
  · cases h
def potsOf (s : Sl) : Option (List PyData × List PyData) := (potOf s[0]?).bind fun a => (potOf1 s[1]?).map fun b => (a, b)
def outM2 : Option Fl → Option (PyData × List PyData × List PyData)
  | some (.rt d s) => (potsOf s).map fun pd => (d, pd)
  | some (.nx s) => (potsOf s).map fun pd => (.none, pd)
  | _ => none
def fnM2 (N : List Str) (n : Nat) (b : DS) : List PyData → List PyData → List PyData → Option (PyData × List PyData × List PyData) := fun pd qd ds => if ds.length + 2 = n then outM2 (b (startM2 N pd qd ds)) else none
section
variable {X : Cx} {Z : Par} {a b e e2 : Expr} {es : List Expr} {pos : Pos} {ga : DA} {k j : Nat} {f : Addr} {fd : FuncData} {ps : List Str} {x : Str} {p : Pos} {E : XK}
theorem lift_callM2 {K : PySem.W.Frag} {m : List PyData → List PyData → List PyData → Option (PyData × List PyData × List PyData)} {i j : Nat} {σ : L2.St} {H : Hp} {Q : VK} (h : lft K Z (dCallM2 m i j ga) σ H Q) : tCall (spM2 K m) [] E (tCons (tVar i) (tCons (tVar j) (lfA K Z ga))) σ H Q := by
  obtain ⟨M, s, d, s', rl, hf, k⟩ := h
  unfold dCallM2 at hf
  simp only [Option.bind_eq_some_iff] at hf
  obtain ⟨pd0, h0, qd0, h0', ⟨ds, s1⟩, h1, pd, h2, qd, h2', h3⟩ := hf
  dsimp only at h2 h2' h3
  split at h3
  case isFalse => cases h3
  rename_i ap
  simp only [Option.map_eq_some_iff] at h3
  obtain ⟨⟨d1, pd1, qd1⟩, h3, h4⟩ := h3
  cases h4
  obtain ⟨a0, xs0, g1, _⟩ := rl.at h0
  obtain ⟨b0, ys0, g1', _⟩ := rl.at h0'
  refine ⟨.ref a0, g1, .ref b0, g1', M, s, ds, s1, rl, h1, fun vs H1 k1 r1 t1 => ?_⟩
  show spM2 K m ((V.ref a0 :: V.ref b0 :: vs) ++ []) H1 Q E
  rw [List.append_nil]
  obtain ⟨a1, xs, e1, e2, e3, e4, e5⟩ := r1.at h2
  rw [g1] at e1
  cases e1
  obtain ⟨b1, ys, f1, f2, f3, f4, f5⟩ := r1.at h2'
  rw [g1'] at f1
  cases f1
  have ne : a0 ≠ b0 := r1.apart ap g1 g1'
  refine ⟨Mu Z M, a0, b0, xs, ys, pd, qd, vs, ds, _, pd1, qd1, rfl, ne, e4, f4, r1.muT, e2, f2, e3, f3, t1, h3, fun v H2 xs2 ys2 g2 g3 g3' t2 t2' t3 => ?_⟩
  -- in between: the other list as it was
  have same : (upd H2 b0 (.lst ys)) b0 = some (.lst ys) := upd_same
  have k12 : Kp (Mu Z M) H2 (Mu Z M) (upd H2 b0 (.lst ys)) := fun c o e n => ⟨by rw [upd_ne (fun z => n (by rw [z]; exact f4))]; exact e, n⟩
  obtain ⟨r2, k2⟩ := e5 (upd H2 b0 (.lst ys)) xs2 pd1 (by rw [upd_ne ne]; exact g3) (fun c o e n => by
    by_cases z : c = b0
    · subst z
      rw [f2] at e
      cases e
      exact same
    · rw [upd_ne z]
      exact g2 c o e n z) (t2.mono k12)
  obtain ⟨b2, ys', m1, m2, m3, m4, m5⟩ := r2.at (contents_setC ap h2')
  rw [g1'] at m1
  cases m1
  obtain ⟨r3, k3⟩ := m5 H2 ys2 qd1 g3' (fun c o e n => by rwa [upd_ne n] at e) t2'
  exact k v H2 (k1.trans (k2.trans k3)) r3 t3
theorem dcallM2 {m : List PyData → List PyData → List PyData → Option (PyData × List PyData × List PyData)} (i i2 : Nat) (F : FnOk X.prog X.w X.K X.mg X.base CX0 k f fd ps (spM2 X.K m)) (hr : Room k X.A) (hg : Gl X x) (hm : X.mg x = some (.ref f)) (hk : PySem.W.keepIn X.K (.ref f) = true) (hb : Binds X.K fd ps []) (h1 : PE X e (tVar i)) (h2 : PE X e2 (tVar i2)) (ha : PA X es (lfA X.K Z ga)) (hx : Passes CX0 X E0 := by exact pass0)
    (hdb : (x == ("__debug__" : Str)) = false := by decide) (he : starEach (e :: e2 :: es) X.env = (false, eval e X.env) :: starEach (e2 :: es) X.env := by rfl) (he2 : starEach (e2 :: es) X.env = (false, eval e2 X.env) :: starEach es X.env := by rfl) (hpl : (backTo pos (starEach (e2 :: es) X.env)).any (·.1) = false := by rfl) :
    PE X (.Call (.Name x p) (e :: e2 :: es) [] pos) (lft X.K Z (dCallM2 m i i2 ga)) := PEimp (pe_call F hr hg hm hk hb .nil hx (pa_cons h1 (pa_cons h2 ha he2) he) hdb he hpl) fun _ _ _ h => lift_callM2 h
theorem dclM2 {m : List PyData → List PyData → List PyData → Option (PyData × List PyData × List PyData)} (i i2 : Nat) (c : Cal X.prog X.w X.K X.mg X.base j x ps (spM2 X.K m)) (hr : Room k X.A) (hj : j ≤ k) (hg : Gl X x) (h1 : PE X e (tVar i)) (h2 : PE X e2 (tVar i2)) (ha : PA X es (lfA X.K Z ga)) (hx : Passes CX0 X E0 := by exact pass0)
    (hdb : (x == ("__debug__" : Str)) = false := by decide) (he : starEach (e :: e2 :: es) X.env = (false, eval e X.env) :: starEach (e2 :: es) X.env := by rfl) (he2 : starEach (e2 :: es) X.env = (false, eval e2 X.env) :: starEach es X.env := by rfl) (hpl : (backTo pos (starEach (e2 :: es) X.env)).any (·.1) = false := by rfl) :
    PE X (.Call (.Name x p) (e :: e2 :: es) [] pos) (lft X.K Z (dCallM2 m i i2 ga)) := by
  obtain ⟨f, fd, F, hm, hk, hb⟩ := c
  exact dcallM2 i i2 F (hr.mono hj) hg hm hk hb h1 h2 ha hx hdb he he2 hpl
end
section
variable {P : Program} {w : World} {K : PySem.W.Frag} {mg : Str → Option Value} {base : Heap}
theorem okM2 {x qual : Str} {st : Stmt} {f : Addr} {fd : FuncData} {N ps : List Str} {k : Nat} {b : DS} (F : Fun K x qual st f fd) (S : FnScope N ps (defScope st))
    (hb : ∀ (cdv : Value) (A : Around) (outer : List Env) (s : Shared) (H : Hp) (E : XK) (Z : Par), Room k (A.deeper (envOfC qual (defScope st) s.heap.objs.size f cdv)) → PSs (cxOf CX0 P w K mg base N qual (defScope st) f cdv A outer s H E).nox (defBody st) (lfS K Z b)) :
    FnOk P w K mg base CX0 (k + 1) f fd ps (spM2 K (fnM2 N ps.length b)) := by
  refine F.ok S (fun vs H Q E h => ?_) (fun cdv A outer s H vs Q E hr h => ?_)
  · obtain ⟨mu, p, q, xs, ys, pd, qd, rest, ds, d, pd', qd', rfl, hne, h0, h0', h1, h2, h2', h3, h3', h4, h5, h6⟩ := h
    unfold fnM2 at h5
    split at h5
    · rename_i hl
      rw [List.length_cons, List.length_cons, h4.len]; exact hl
    · cases h5
  · obtain ⟨mu, p, q, xs, ys, pd, qd, rest, ds, d, pd', qd', rfl, hne, h0, h0', h1, h2, h2', h3, h3', h4, h5, h6⟩ := h
    unfold fnM2 at h5
    split at h5
    case isFalse => cases h5
    rename_i hl
    let Z : Par := ⟨H, [p, q], mu, by simpa using hne⟩
    refine ⟨_, hb cdv A outer s H E Z hr, [], startM2 N pd qd ds, ?_⟩
    have inn : ∀ {a}, a ∈ Z.p → a = p ∨ a = q := fun {a} h => by simpa [Z] using h
    have muE : ∀ a, Mu Z [] a → mu a := fun a z => by
      rcases z with z | z | z
      · exact z
      · rcases inn z with e | e
        · rw [e]; exact h0
        · rw [e]; exact h0'
      · cases z
    have kk : Kp mu H (Mu Z []) H := fun a o e n => ⟨e, fun z => n (muE a z)⟩
    have r : Rel K Z [] (start N (.ref p :: .ref q :: rest)) H (startM2 N pd qd ds) := by
      refine ⟨fun a o e _ => e, fun a ha => (by cases ha), h1, fun a ha => ?_, ?_⟩
      · rcases inn ha with e | e
        · exact ⟨_, e ▸ h2⟩
        · exact ⟨_, e ▸ h2'⟩
      unfold startM2 L2.start
      have e : N.length - (V.ref p :: V.ref q :: rest).length = N.length - 2 - ds.length := by rw [List.length_cons, List.length_cons, h4.len]; omega
      rw [e]
      exact .pot (i := 0) rfl h2 (h3.mono kk) (.pot (i := 1) rfl h2' (h3'.mono kk) (slAll_start _ (h4.mono kk)))
    have fin : ∀ {M : List Addr} {σ : L2.St} {H1 : Hp} {s1 : Sl} {z : List PyData × List PyData}, Rel K Z M σ H1 s1 → potsOf s1 = some z → ∃ xs1 ys1, H1 p = some (.lst xs1) ∧ H1 q = some (.lst ys1) ∧ DtAll K mu H1 xs1 z.1 ∧ DtAll K mu H1 ys1 z.2 := fun {M σ H1 s1 z} r1 e => by
      unfold potsOf at e
      simp only [Option.bind_eq_some_iff, Option.map_eq_some_iff] at e
      obtain ⟨u, e1, v, e2, e3⟩ := e
      subst e3
      obtain ⟨a, xs1, _, g2, g3, g4⟩ := r1.sl.getPot (potOf_eq e1)
      obtain ⟨b, ys1, _, f2, f3, f4⟩ := r1.sl.getPot (potOf1_eq e2)
      cases g2
      cases f2
      exact ⟨xs1, ys1, g3, f3, g4.mono fun a o e n => ⟨e, fun z => n (.inl z)⟩, f4.mono fun a o e n => ⟨e, fun z => n (.inl z)⟩⟩
    have bs : ∀ {M : List Addr} {σ : L2.St} {H1 : Hp} {s1 : Sl}, Rel K Z M σ H1 s1 → ∀ a o, H a = some o → a ≠ p → a ≠ q → H1 a = some o := fun r1 a o e n n' => r1.base a o e (fun z => (inn z).elim n n')
    unfold outM2 at h5
    split at h5
    · rename_i d1 s1 hq
      simp only [Option.map_eq_some_iff] at h5
      obtain ⟨z, hp, h5⟩ := h5
      cases h5
      refine ⟨_, r, hq, fun M σ H1 v k1 r1 t1 => ?_⟩
      obtain ⟨xs1, ys1, e1, e1', e2, e2'⟩ := fin r1 hp
      exact h6 v H1 xs1 ys1 (bs r1) e1 e1' e2 e2' (t1.mono fun a o e n => ⟨e, fun z => n (.inl z)⟩)
    · rename_i s1 hq
      simp only [Option.map_eq_some_iff] at h5
      obtain ⟨z, hp, h5⟩ := h5
      cases h5
      refine ⟨_, r, hq, fun M σ H1 k1 r1 => ?_⟩
      obtain ⟨xs1, ys1, e1, e1', e2, e2'⟩ := fin r1 hp
      exact h6 _ H1 xs1 ys1 (bs r1) e1 e1' e2 e2' .non
    · cases h5
theorem calM2 {x : Str} {st : Stmt} {N ps : List Str} {k : Nat} {b : DS} (F : Std K mg x st ps) (S : FnScope N ps (defScope st))
    (hb : ∀ (f : Addr) (cdv : Value) (A : Around) (outer : List Env) (s : Shared) (H : Hp) (E : XK) (Z : Par), Room k (A.deeper (envOfC x (defScope st) s.heap.objs.size f cdv)) → PSs (cxOf CX0 P w K mg base N x (defScope st) f cdv A outer s H E).nox (defBody st) (lfS K Z b)) :
    Cal P w K mg base (k + 1) x ps (spM2 K (fnM2 N ps.length b)) := by
  obtain ⟨f, fd, F, hm, hb2⟩ := F
  exact ⟨f, fd, okM2 F S (fun cdv A outer s H E Z hr => hb f cdv A outer s H E Z hr), hm, F.kp, hb2⟩
theorem Std.noneM2 {x : Str} {st : Stmt} {ps : List Str} (c : Std K mg x st ps) (k : Nat) : Cal P w K mg base k x ps (spM2 K fun _ _ _ => none) := by
  obtain ⟨f, fd, F, hm, hb⟩ := c
  refine ⟨f, fd, ⟨fun vs H Q E h => ?_, fun A outer s H args us vs Q E hr e hb hv h => ?_⟩, hm, F.kp, hb⟩
  · obtain ⟨_, _, _, _, _, _, _, _, _, _, _, _, _, _, _, _, _, _, _, _, _, _, z, _⟩ := h
    cases z
  · obtain ⟨_, _, _, _, _, _, _, _, _, _, _, _, _, _, _, _, _, _, _, _, _, _, z, _⟩ := h
    cases z
end
end Dl

/-! ### a comprehension in which a def's own def is called: its block knows at its start what the captured cells hold -/
namespace Dl
open PySem PySem.Spec PyProof.Rows L2 NdefX
structure Tie (X : Cx) (cl : List (Str × Addr)) (fr : List Str) (ws : List (Option V)) (s : Shared) (H : Hp) (fp : List Addr) : Prop where
  cells : CellsAt cl fr ws s.heap H
  nofs : ∀ y c, cl.lookup y = some c → c ∉ frs X.stack
  noex : ∀ y c, cl.lookup y = some c → c ∉ fp
theorem Tie.later {X : Cx} {cl : List (Str × Addr)} {fr : List Str} {ws : List (Option V)} {s s' : Shared} {H H' : Hp} {fp : List Addr} {scope : Scope} {cenv : Env} {pins : List (Addr × Obj)} {σ : L2.St} (t : Tie X cl fr ws s H fp) (I : Inv (X.blk s H scope cenv fp) pins σ H' s') : CellsAt cl fr ws s'.heap H' :=
  CellsAt.later (X := X.blk s H scope cenv fp) t.cells t.nofs t.noex I
theorem CellsAt.kept {cl : List (Str × Addr)} {fr : List Str} {ws : List (Option V)} {h h' : Heap} {H H' : Hp} (C : CellsAt cl fr ws h H) (k : ∀ b o, h.get? b = some o → h'.get? b = some o) (n : ∀ y c, cl.lookup y = some c → H' c = none) : CellsAt cl fr ws h' H' :=
  ⟨C.len, fun y c e => let ⟨_, v, z⟩ := C.all y c e; ⟨n y c e, v, z.keeps k⟩, C.inj, fun i y e => let ⟨c, e1, e2⟩ := C.has i y e; ⟨c, e1, fun v ev => let ⟨u, r, z⟩ := e2 v ev; ⟨u, r, z.keeps k⟩⟩⟩
section
variable {X : Cx} {cl : List (Str × Addr)} {fr : List Str} {ws : List (Option V)}
theorem pe_lcTie {Cσ : L2.St → Prop} {elt tg iter : Expr} {scope : Scope} {own : List (Str × Nat)} {pos : Pos} {wi : TI} {g : TG} {te : TE} (calm : X.calm = true) (nd : X.N.Nodup) (walk : PI X tg iter wi) (blk : BlkOk X.N X.env.scope scope own)
    (cellsNow : ∀ pins σ H s, Inv X pins σ H s → Cσ σ → CellsAt cl fr ws s.heap H) (sub : X.Ok → ∀ y c, cl.lookup y = some c → X.env.cells.lookup y = some c) (away : ∀ pins σ H s, Inv X pins σ H s → ∀ y c, cl.lookup y = some c → c ∉ frs X.stack)
    (put : ∀ (s : Shared) (H : Hp) (C : Addr) (l : List (Str × Addr)) (fp : List Addr), PG (X.blk s H scope (compEnvC scope l C X.env) fp) tg g)
    (item : ∀ (s : Shared) (H : Hp) (C : Addr) (l : List (Str × Addr)) (fp : List Addr), Tie X cl fr ws s H fp → PE (X.blk s H scope (compEnvC scope l C X.env) fp) elt te) (plain : ∀ x, foldedSetIterable iter X.env x = pure x := by intro _; rfl) :
    PE X (.ListComp elt [⟨tg, iter, [], 0⟩] scope pos) (fun σ H Q => Cσ σ ∧ tLc wi g tYes te (own.map (·.2)) σ H Q) := by
  refine ⟨fun pins s σ H Q I h => ?_⟩
  obtain ⟨hC, h⟩ := h
  rw [eval_ListComp]
  have held : ∀ y ∈ scope.names, y.2 = .free → ∃ c, X.env.cells.lookup y.1 = some c := fun y m e =>
    match blk.free y m e with
    | .inl k => I.ok.has _ (.inl k)
    | .inr k => I.ok.has _ (.inr k)
  have first := walk.run pins s σ H _ I h
  refine wpAny_comprehension_free (use := none) rfl plain (closure_ok held) blk.kind (fun y m e => by rw [blk.uniq y m, e]) (wpAny_mono first (fun xv sa ha => wpAny_mono ha (fun itv sb hb => ?_) fun _ _ z => z) fun _ _ z => z)
  obtain ⟨it, fp, tn, J, Hb, rfl, Ib, Tn, at0, fpb, more⟩ := hb
  refine wpAny_newObj_type (newEnv_comp ?_) (Nat.zero_le _)
  -- the new list at D
  obtain ⟨D, hD⟩ : ∃ D, sb.heap.objs.size = D := ⟨_, rfl⟩
  rw [hD]
  have free0 : Hb D = none := Ib.hok.fresh (Nat.le_of_eq hD)
  obtain ⟨W, ⟨m0, w0⟩, turns⟩ := more D free0
  obtain ⟨sc, hsc⟩ : ∃ sc : Shared, sc = { sb with heap := sb.heap.push { cls := .type "list", data := .seq ([] : List Value).toArray } } := ⟨_, rfl⟩
  have hh : sc.heap = sb.heap.push { cls := .type "list", data := .seq ([] : List Value).toArray } := by rw [hsc]
  have Ic : Inv X pins σ (upd Hb D (.lst [])) sc := by
    subst hsc
    exact Ib.laid (t' := sb.toks) (fun b o e => Heap.get?_push_of_some _ e) (Nat.le_of_eq hD) ⟨Nat.zero_le _, [], 0, .nil, by rw [← hD]; exact Heap.get?_push_size _ rfl⟩
  have kc : ∀ b o, sb.heap.get? b = some o → sc.heap.get? b = some o := fun b o e => by rw [hh]; exact Heap.get?_push_of_some _ e
  have below : ∀ b ∈ fp, b < sb.heap.objs.size := fun b m => let ⟨_, e, _⟩ := Tn.obj _ _ at0 b m; Heap.lt_size e
  have fpc : ∀ b ∈ fp, FpOk X pins (upd Hb D (.lst [])) b ∧ b < sc.heap.objs.size := fun b m => by
    have lt := below b m
    refine ⟨⟨?_, (fpb b m).2⟩, by rw [hh, Heap.size_push]; exact Nat.lt_succ_of_lt lt⟩
    rw [upd_ne (by rw [← hD]; exact Nat.ne_of_lt lt)]
    exact (fpb b m).1
  have tied : Tie X cl fr ws sc (upd Hb D (.lst [])) fp := ⟨cellsNow _ _ _ _ Ic hC, away _ _ _ _ Ic, fun y c e m => (fpb c m).2.2.2.2.1 y c (sub Ic.ok y c e) rfl⟩
  have atc : tn 0 sc.heap := Tn.keep _ _ _ at0 fun b _ o e => kc b o e
  have Id := block_start Ic blk nd fpc
  have p1 := put sc (upd Hb D (.lst [])) sc.heap.objs.size (cellsFrom (sc.heap.objs.size + 1) scope.names (cloFrom X.env.cells scope.names [])) fp
  have p2 := item sc (upd Hb D (.lst [])) sc.heap.objs.size (cellsFrom (sc.heap.objs.size + 1) scope.names (cloFrom X.env.cells scope.names [])) fp tied
  have nofp : ∀ b ∈ fp, (upd Hb D (.lst [])) b = none := fun b m => (fpc b m).1.1
  obtain ⟨ce, hce⟩ : ∃ ce, ce = compEnvC scope (cellsFrom (sc.heap.objs.size + 1) scope.names (cloFrom X.env.cells scope.names [])) sc.heap.objs.size X.env := ⟨_, rfl⟩
  rw [← hce] at Id p1 p2
  have lce : ce.locals = sc.heap.objs.size := by subst hce; rfl
  obtain ⟨Hc, hHc⟩ : ∃ Hc, Hc = upd Hb D (.lst []) := ⟨_, rfl⟩
  rw [← hHc] at Ic Id p1 p2 w0 nofp fpc
  obtain ⟨sd, hsd⟩ : ∃ sd : Shared, sd = { sc with heap := pushCells (sc.heap.push { cls := .type "dict", data := .dict #[] }) scope.names } := ⟨_, rfl⟩
  rw [← hsd] at Id
  have atd : tn 0 sd.heap := Tn.keep _ _ _ atc fun b _ o e => by rw [hsd]; exact pushCells_keeps _ _ _ _ (Heap.get?_push_of_some _ e)
  -- what holds between turns
  let B : Cx := X.blk sc Hc scope ce fp
  let In : Nat → Shared → Prop := fun n s' => ∃ i H', Inv B [] (wipe σ (own.map (·.2))) H' s' ∧ tn i s'.heap ∧ (∀ b ∈ fp, H' b = none) ∧ W i n H'
  have okB : ∀ {σ' : L2.St} {H' : Hp} {s' : Shared}, Inv B [] σ' H' s' → (∀ b ∈ fp, H' b = none) → ∀ b ∈ fp, FpOk B [] H' b := fun I' n b m =>
    ⟨n b m, (I'.ok.exf b m).1, I'.ok.exfs b m, .inl m, fun x c e => (I'.ok.exf b m).2 x c e, fun p hp => by cases hp⟩
  have loop : codeAny (model X.prog X.w) X.A (.compLoop (.ListComp elt [⟨tg, iter, [], 0⟩] scope pos) 0 (.ref it) (.ref D) ce) (compPost (model X.prog X.w) X.A X.xe none (EP X pins σ Q) (.ref D) sc.heap.objs.size) sd := by
    refine compLoop_any In ?_ m0 ⟨0, Hc, Id, atd, nofp, w0⟩
    intro n se ⟨i, He, Ie, ate, ne, we⟩
    rcases turns i n He we with ⟨stop, qq⟩ | ⟨go, Nx, next, step⟩
    · -- the end: back in the def
      refine thnF (Tn.done B rfl rfl rfl calm i [] se _ He (fun _ _ => False) Ie (okB Ie ne) ate stop) fun r sf ⟨hr, If⟩ => ?_
      subst hr
      have Ig : Inv X pins σ He sf := Ic.call' (ch := fp) If.os If.base If.hok If.bare fun b m => let f := (fpc b m).1; ⟨f.2.2.2.1, f.2.1, f.2.2.2.2.1, f.2.2.2.2.2⟩
      have freeC : He sc.heap.objs.size = none := lce ▸ If.free
      obtain ⟨m, names, _⟩ := If.loc
      have names' : sf.heap.Ns sc.heap.objs.size m := lce ▸ names
      obtain ⟨f0, f1, f2, f3, f4, f5⟩ := Ic.fpOk (Nat.le_refl _) freeC
      exact ⟨m, names', fun h' same => ⟨.ref D, He, Ig.turned (t' := sf.toks) (fun b o z e => (same.2 b z).trans e) f0 f1 f3 f4 f5, rfl, qq⟩⟩
    · refine thnF (Tn.item B rfl rfl rfl calm i [] se _ He (fun _ _ => False) Ie (okB Ie ne) ate go) fun r sf ⟨u, hr, hf⟩ => ?_
      subst hr
      refine thnF hf fun _ sg ⟨x, Hg, Ig, rx, yx, atg, ng⟩ => ?_
      have Ip := Ig.pinned (okB Ig ng) (Tn.obj _ _ atg)
      refine thnF (p1.run _ sg _ Hg x u _ Ip rx (step x Hg yx)) fun _ sh ⟨σh, Hh, Ih, same, qh⟩ => ?_
      refine thnF ((pts_nil (X := B)).run _ sh σh Hh _ Ih qh) fun b si ⟨Hi, Ii, qi⟩ => ?_
      have again : ∀ {s' : Shared} {H' : Hp}, Inv B ([] ++ pinsAt fp sg.heap) σh H' s' → Nx H' → ∃ m, m < n ∧ In m s' := fun {s' H'} I' nx => by
        obtain ⟨m', less, w'⟩ := next H' nx
        have pinned : ∀ b ∈ fp, ∀ o, sg.heap.get? b = some o → s'.heap.get? b = some o ∧ H' b = none := fun b m o e =>
          have z := I'.pin (b, o) (List.mem_append_right _ (List.mem_append_right _ (mem_pinsAt m e)))
          ⟨z.1, z.2.1⟩
        refine ⟨m', less, i + 1, H', (I'.unpinned (pins := [])).weak (by rw [← same, wipe_length]) (fun j v e => ?_), Tn.keep _ _ _ atg fun b m o e => (pinned b m o e).1, fun b m => ?_, w'⟩
        · exact (wipe_some (same ▸ e)).1
        · obtain ⟨o, e, _⟩ := Tn.obj _ _ atg b m
          exact (pinned b m o e).2
      cases b with
      | false => exact again Ii qi
      | true =>
        refine thnF (p2.run _ si σh Hi _ Ii qi) fun z sj ⟨yv, Hj, Ij, rj, acc, hacc, few, nx⟩ => ?_
        exact app_ok (X := B) Ij hacc few rj fun sk Ik => again Ik nx
  have done := codeAny_compStart_list loop (Tn.self X.A 0 _ _ _ atd loop)
  subst hce hsd
  exact hsc ▸ done
end
end Dl

/-! ### a def's own def that captures the list handed in: made, called, its promise -/
namespace Dl
open PySem PySem.Spec PyProof.Rows L2 NdefX
/-! #### made -/
def tNdefT (P : Addr) (q : Str) (i : Nat) (mk : Addr → NF) : TS := fun D σ H => ∃ old : Addr → Prop, Tabl H P q old ∧ ∀ (f c' : Addr) (H1 : Hp), (∀ b o, b ≠ P → H b = some o → H1 b = some o) → Tabl H1 P q (fun c => old c ∨ H c = none) → H f = none → H1 f = some (FnO f (mk c')) → H1 c' = some (LamX.CodeO c' q) → D.nx (σ.set i (some (.ref f))) H1
section
variable {X : Cx} {pins : List (Addr × Obj)} {σ : L2.St} {H : Hp} {s : Shared}
theorem ndef_new {c P : Addr} {old : Addr → Prop} {name : Str} {params : Arguments} {body : List Stmt} {scope : Scope} {pos : Pos} {F : Value → Shared → Prop} {Q : Value → Shared → Prop} (I : Inv X pins σ H s) (TB : LamX.TabB X.base X.mg c P) (hcode : X.env.code = .ref c)
    (tab : Tabl H P (X.env.qual ++ name) old) (held : ∀ y ∈ scope.names, y.2 = .free → ∃ c, X.env.cells.lookup y.1 = some c)
    (h : ∀ (f c' : Addr) (H1 : Hp) (s1 : Shared), Inv X pins σ H1 s1 → (∀ b o, b ≠ P → H b = some o → H1 b = some o) → Tabl H1 P (X.env.qual ++ name) (fun c => old c ∨ H c = none) → H f = none →
      H1 f = some (FnO f ⟨name, X.env.qual ++ name, params, body, scope, cloFrom X.env.cells scope.names [], c'⟩) → H1 c' = some (LamX.CodeO c' (X.env.qual ++ name)) → Q (.ref f) s1) :
    wpAny (model X.prog X.w) X.A (makeFunction name (X.env.qual ++ name) params (.stmts body) scope X.env [] [] [] pos pos.line) Q F s := by
  obtain ⟨ps, atP, tr, codes⟩ := tab
  have mods : s.heap.BuiltinsAt X.mg P := TB.bm.keeps I.bk
  have inHeap : s.heap.get? P = some { cls := .none, data := .fields ps } := I.hok P _ atP
  rcases found : codeAmong pos ps.toList with _ | cv
  · refine PySem.W.makeFunction_K (mg := X.mg) (c := c) (P := P) (ps := ps) (closure_ok held) I.ok.glob (I.mod.glob.keeps I.bk) hcode (TB.code.keeps I.bk) inHeap tr found TB.gP mods fun c' ctv doc h1 tk ext ge lt rec here => ?_
    obtain ⟨_, oc, us, u, e, g1, g2, g3⟩ := rec
    cases e
    have new : H c' = none := I.hok.fresh ge
    have J := LamX.inv_table (t' := tk) (more := #[rawInt pos.line, rawInt pos.col, .ref c']) (h' := h1) I atP (fun b o nb e => ext b o nb e) here ge ⟨oc, us, u, g1, g2, g3⟩
    have stays : ∀ b o, b ≠ P → H b = some o → (upd (upd H P (.tbl (ps ++ #[rawInt pos.line, rawInt pos.col, .ref c']))) c' (LamX.CodeO c' (X.env.qual ++ name))) b = some o := fun b o nb e => by
      rw [upd_ne (ne_of_none e new), upd_ne nb]; exact e
    have two : (ps ++ #[rawInt pos.line, rawInt pos.col, .ref c']).toList = ps.toList ++ [rawInt pos.line, rawInt pos.col, .ref c'] := by simp
    have newF := J.hok.fresh (Nat.le_refl _)
    have J2 := inv_fn (F := ⟨name, X.env.qual ++ name, params, body, scope, cloFrom X.env.cells scope.names [], c'⟩) (t' := tk) (doc := doc) (pm := (X.mg "__name__").getD .none) (ctv := ctv) J rfl
    refine h h1.objs.size c' _ _ J2 (fun b o nb e => ?_) ⟨ps ++ #[rawInt pos.line, rawInt pos.col, .ref c'], ?_, ?_, fun p2 cv hcv => ?_⟩ (I.hok.fresh (Nat.le_trans ge (Nat.le_of_lt lt))) upd_same ?_
    · exact (upd_ne (ne_of_none (stays b o nb e) newF)).trans (stays b o nb e)
    · have e : (upd (upd H P (.tbl (ps ++ #[rawInt pos.line, rawInt pos.col, .ref c']))) c' (LamX.CodeO c' (X.env.qual ++ name))) P = some (.tbl (ps ++ #[rawInt pos.line, rawInt pos.col, .ref c'])) := by rw [upd_ne (ne_of_none atP new), upd_same]
      exact (upd_ne (ne_of_none e newF)).trans e
    · rw [two]; exact TriplesOk_snoc _ _ _ _ tr
    · rw [two] at hcv
      rcases LamX.among_app _ tr hcv with z | z
      · obtain ⟨d, e1, e2, e3⟩ := codes p2 cv z
        have e4 := stays d _ (fun w => by
          rw [w, atP] at e2
          exact LamX.codeO_ne ps (Option.some.inj e2).symm) e2
        exact ⟨d, e1, (upd_ne (ne_of_none e4 newF)).trans e4, .inl e3⟩
      · exact ⟨c', z, (upd_ne (Nat.ne_of_lt lt)).trans upd_same, .inr new⟩
    · exact (upd_ne (Nat.ne_of_lt lt)).trans upd_same
  · obtain ⟨c', e, co, ol⟩ := codes pos cv found
    subst e
    refine PySem.W.makeFunction_hit (mg := X.mg) (c := c) (P := P) (ps := ps) (closure_ok held) I.ok.glob (I.mod.glob.keeps I.bk) hcode (TB.code.keeps I.bk) inHeap tr found mods fun ctv doc h1 tk ext behind => ?_
    have J : Inv X pins σ H { s with heap := h1, toks := tk } := I.kept ext
    have newF : H h1.objs.size = none := J.hok.fresh (Nat.le_refl _)
    have J2 := inv_fn (F := ⟨name, X.env.qual ++ name, params, body, scope, cloFrom X.env.cells scope.names [], c'⟩) (t' := tk) (doc := doc) (pm := (X.mg "__name__").getD .none) (ctv := ctv) J rfl
    have stays : ∀ b o, H b = some o → (upd H h1.objs.size (FnO h1.objs.size ⟨name, X.env.qual ++ name, params, body, scope, cloFrom X.env.cells scope.names [], c'⟩)) b = some o := fun b o e => (upd_ne (ne_of_none e newF)).trans e
    refine h h1.objs.size c' _ _ J2 (fun b o _ e => stays b o e) ⟨ps, stays _ _ atP, tr, fun p2 cv z => ?_⟩ newF upd_same (stays _ _ co)
    obtain ⟨d, e1, e2, e3⟩ := codes p2 cv z
    exact ⟨d, e1, stays _ _ e2, .inl e3⟩
theorem ps_ndefT {st : Stmt} {c P : Addr} {name q : Str} {pos : Pos} {i : Nat} (hst : st = .FunctionDef name (C8.fnArgs st) (C8.fnBody st) [] none [] (C8.fnScope st) none name pos) (TB : LamX.TabB X.base X.mg c P) (hcode : X.env.code = .ref c) (hq : q = X.env.qual ++ name)
    (hfree : ∀ y ∈ (C8.fnScope st).names, y.2 = .free → X.env.scope.names.lookup y.1 = some .cell ∨ X.env.scope.names.lookup y.1 = some .free) (hd0 : (C8.fnArgs st).defaults = []) (hk0 : (C8.fnArgs st).kw_defaults = []) (ha : annTrees (C8.fnArgs st) none X.env = [])
    (hN : X.N.Nodup) (hi : X.N[i]? = some name) (hx : Loc X.env.scope name) (hf : X.fn name = true ∨ X.env.scope.names.lookup name = some .local) :
    PS X st (tNdefT P q i (NF.of st name q (cloFrom X.env.cells (C8.fnScope st).names []))) := by
  subst hq
  refine ⟨fun pins s σ H D I h => ?_⟩
  obtain ⟨old, tab, h⟩ := h
  have hq : qualnameIn X.env name name = X.env.qual ++ name := by
    have hk : X.env.kindOf name = some .local ∨ X.env.kindOf name = some .cell := hx
    unfold qualnameIn
    rcases hk with k | k <;> rw [k] <;> first | rfl | exact if_neg (by decide)
  rw [hst]
  refine PySem.W.nestDef_K hd0 hk0 ha ?_
  rw [hq]
  have held : ∀ y ∈ (C8.fnScope st).names, y.2 = .free → ∃ c, X.env.cells.lookup y.1 = some c := fun y hy e => (hfree y hy e).elim (fun z => I.ok.has _ (.inl z)) fun z => I.ok.has _ (.inr z)
  refine ndef_new I TB hcode tab held fun f c' H1 s1 I1 stays tab1 f0 f1 c1 => ?_
  exact store_ok I1 hN hi hx (v := .ref f) rfl (fun s2 J => ⟨_, H1, J, h f c' H1 stays tab1 f0 f1 c1⟩) hf
end
/-! #### its promise -/
def spN (K : PySem.W.Frag) (m : List PyData → List PyData → Option (PyData × List PyData)) : List (Option V) → Sp := fun ws vs H Q _ => ∃ mu p xs pd ds d pd', ws = [some (.ref p)] ∧ mu p ∧ (∀ a, mu a → ∃ o, H a = some o) ∧ H p = some (.lst xs) ∧ DtAll K mu H xs pd ∧ DtAll K mu H vs ds ∧
  m pd ds = some (d, pd') ∧ ∀ v H' xs', (∀ a o, H a = some o → a ≠ p → H' a = some o) → H' p = some (.lst xs') → DtAll K mu H' xs' pd' → Dt K mu H' v d → Q v H'
def startN (N : List Str) (pd ds : List PyData) : Sl := ds.map SV.dat ++ (SV.pot 0 pd :: List.replicate (N.length - ds.length - 1) .no)
def outN (n : Nat) : Option Fl → Option (PyData × List PyData)
  | some (.rt d s) => (potOf s[n]?).map fun pd => (d, pd)
  | some (.nx s) => (potOf s[n]?).map fun pd => (.none, pd)
  | _ => none
def fnN (N : List Str) (n : Nat) (b : DS) : List PyData → List PyData → Option (PyData × List PyData) := fun pd ds => if ds.length = n then outN n (b (startN N pd ds)) else none
section
variable {P : Program} {w : World} {K : PySem.W.Frag} {mg : Str → Option Value} {base : Heap}
theorem slAll_data {mu : Addr → Prop} {q : List Addr} {H : Hp} {σ : L2.St} {s : Sl} (r : SlAll K mu q H σ s []) : ∀ {vs : List V} {ds : List PyData}, DtAll K mu H vs ds → SlAll K mu q H (vs.map some ++ σ) (ds.map SV.dat ++ s) []
  | _, _, .nil => r
  | _, _, .cons h t => .dat h (slAll_data r t)
theorem nokN {F : NF} {f : Addr} {y : Str} {N ps : List Str} {k : Nat} {b : DS} (S : NScope N ps [y] F.scope) (hb : ∀ (doc pm ctv : Value) (us : List Value), us.length = ps.length → bindArgs (F.fd doc pm ctv) ⟨us, []⟩ = pure (ps.zip us))
    (body : ∀ (A : Around) (outer : List Env) (s : Shared) (H : Hp) (E : XK) (Z : Par), Room k (A.deeper (envF F f s.heap.objs.size)) → PSs (ncx CX0 P w K mg base N F f A outer s H E).nox F.body (lfS K Z b)) :
    NOk P w K mg base CX0 (k + 1) f F ps [y] (spN K (fnN N ps.length b)) := by
  refine nok_of S hb (fun ws vs H Q E h => ?_) fun A outer s H vs ws Q E hr _ _ _ h => ?_
  · obtain ⟨mu, p, xs, pd, ds, d, pd', _, _, _, _, _, h4, h5, _⟩ := h
    unfold fnN at h5
    split at h5
    · rename_i hl
      rw [h4.len]; exact hl
    · cases h5
  · obtain ⟨mu, p, xs, pd, ds, d, pd', rfl, h0, h1, h2, h3, h4, h5, h6⟩ := h
    unfold fnN at h5
    split at h5
    case isFalse => cases h5
    rename_i hl
    let Z : Par := ⟨H, [p], mu, by simp⟩
    refine ⟨_, (body A outer s H E Z hr).nox, [], startN N pd ds, ?_⟩
    have muE : ∀ a, Mu Z [] a → mu a := fun a q => by
      rcases q with q | q | q
      · exact q
      · rw [List.mem_singleton.mp q]; exact h0
      · cases q
    have kk : Kp mu H (Mu Z []) H := fun a o e n => ⟨e, fun z => n (muE a z)⟩
    have r : Rel K Z [] (startF N vs [some (.ref p)]) H (startN N pd ds) := by
      refine ⟨fun a o e _ => e, fun a ha => (by cases ha), h1, fun a ha => ⟨_, List.mem_singleton.mp ha ▸ h2⟩, ?_⟩
      unfold startN startF
      rw [h4.len]
      exact slAll_data (.pot rfl h2 (h3.mono kk) (slAll_nos _)) (h4.mono kk)
    have fin : ∀ {M : List Addr} {σ : L2.St} {H1 : Hp} {s1 : Sl} {pd1 : List PyData} {i : Nat}, Rel K Z M σ H1 s1 → s1[i]? = some (.pot 0 pd1) → ∃ xs1, H1 p = some (.lst xs1) ∧ DtAll K mu H1 xs1 pd1 := fun {M σ H1 s1 pd1 i} r1 e => by
      obtain ⟨a, xs1, _, e2, e3, e4⟩ := r1.sl.getPot e
      cases e2
      exact ⟨xs1, e3, e4.mono fun a o e n => ⟨e, fun z => n (.inl z)⟩⟩
    have bs : ∀ {M : List Addr} {σ : L2.St} {H1 : Hp} {s1 : Sl}, Rel K Z M σ H1 s1 → ∀ a o, H a = some o → a ≠ p → H1 a = some o := fun r1 a o e n => r1.base a o e (fun z => n (List.mem_singleton.mp z))
    unfold outN at h5
    split at h5
    · rename_i d1 s1 hq
      simp only [Option.map_eq_some_iff] at h5
      obtain ⟨pd1, hp, h5⟩ := h5
      cases h5
      refine ⟨_, r, hq, fun M σ H1 v k1 r1 t1 => ?_⟩
      obtain ⟨xs1, e1, e2⟩ := fin r1 (potOf_eq hp)
      exact h6 v H1 xs1 (bs r1) e1 e2 (t1.mono fun a o e n => ⟨e, fun z => n (.inl z)⟩)
    · rename_i s1 hq
      simp only [Option.map_eq_some_iff] at h5
      obtain ⟨pd1, hp, h5⟩ := h5
      cases h5
      refine ⟨_, r, hq, fun M σ H1 k1 r1 => ?_⟩
      obtain ⟨xs1, e1, e2⟩ := fin r1 (potOf_eq hp)
      exact h6 _ H1 xs1 (bs r1) e1 e2 .non
    · cases h5
end
/-! #### its call -/
def isRf (f : Addr) : Option SV → Bool
  | some (.rf a) => decide (a = f)
  | _ => false
theorem isRf_eq {f : Addr} {x : Option SV} (h : isRf f x = true) : x = some (.rf f) := by
  unfold isRf at h
  split at h
  · rw [of_decide_eq_true h]
  · cases h
theorem SlAll.getRf {K : PySem.W.Frag} {mu : Addr → Prop} {q : List Addr} {H : Hp} {f : Addr} {σ : L2.St} {s : Sl} {M : List Addr} (t : SlAll K mu q H σ s M) : ∀ {i : Nat}, s[i]? = some (.rf f) → σ[i]? = some (some (.ref f)) := by
  induction t with
  | nil => intro i e; simp at e
  | rf t ih => intro i e; cases i with
    | zero => simp at e; subst e; rfl
    | succ i => simpa using ih (by simpa using e)
  | dat h t ih => intro i e; cases i with
    | zero => simp at e
    | succ i => simpa using ih (by simpa using e)
  | no t ih => intro i e; cases i with
    | zero => simp at e
    | succ i => simpa using ih (by simpa using e)
  | own h d n t ih => intro i e; cases i with
    | zero => simp at e
    | succ i => simpa using ih (by simpa using e)
  | pot h0 h d t ih => intro i e; cases i with
    | zero => simp at e
    | succ i => simpa using ih (by simpa using e)
  | tab h0 h d w t ih => intro i e; cases i with
    | zero => simp at e
    | succ i => simpa using ih (by simpa using e)
  | dic h n t ih => intro i e; cases i with
    | zero => simp at e
    | succ i => simpa using ih (by simpa using e)
/-- g(..), g the own def at the slot i -/
def dRow (f : Addr) (i : Nat) (m : List PyData → List PyData → Option (PyData × List PyData)) (g : DA) : DE := fun s => if isRf f s[i]? = true then (g s).bind fun q => (potOf q.2[0]?).bind fun pd => (m pd q.1).map fun r => (r.1, setC q.2 0 r.2) else none
/-- what stands of the own def's function while the def runs -/
structure Made (Z : Par) (f p : Addr) (F : NF) : Prop where
  fn : Z.H0 f = some (FnO f F)
  code : Z.H0 F.c = some (LamX.CodeO F.c F.qual)
  nf : f ∉ Z.p
  nc : F.c ∉ Z.p
  pot : Z.p[0]? = some p
/-- where it may be called: what its cells hold is known there -/
def Sees (X : Cx) (cl : List (Str × Addr)) (y : Str) (p : Addr) : Prop := ∀ pins σ H s, Inv X pins σ H s → slotAt σ 0 = some (.ref p) → CellsAt cl [y] [some (.ref p)] s.heap H
section
variable {X : Cx} {Z : Par} {ga : DA} {f p : Addr} {F : NF} {y x : Str} {ps : List Str} {i j k : Nat} {m : List PyData → List PyData → Option (PyData × List PyData)} {e : Expr} {es : List Expr} {p0 pos : Pos}
theorem drow (G : Made Z f p F) (Fn : NOk X.prog X.w X.K X.mg X.base CX0 j f F ps [y] (spN X.K m)) (see : Sees X F.cl y p) (hr : Room k X.A) (hj : j ≤ k) (hN : X.N[i]? = some x) (hv : Vis X.env.scope x) (ha : PA X (e :: es) (lfA X.K Z ga)) (hx : Passes CX0 X E0 := by exact pass0)
    (hd : (x == ("__debug__" : Str)) = false := by decide) (hcd : (x == ("__classdict__" : Str)) = false := by decide)
    (he : starEach (e :: es) X.env = (false, eval e X.env) :: starEach es X.env := by rfl) (hpl : (backTo pos (starEach es X.env)).any (·.1) = false := by rfl) : PE X (.Call (.Name x p0) (e :: es) [] pos) (lft X.K Z (dRow f i m ga)) := by
  refine ⟨fun pins s σ H Q I h => ?_⟩
  obtain ⟨M, s0, d, s', rl, hf, k0⟩ := h
  unfold dRow at hf
  split at hf
  case isFalse => cases hf
  rename_i isf
  have atI : σ[i]? = some (some (.ref f)) := rl.sl.getRf (isRf_eq isf)
  simp only [Option.bind_eq_some_iff, Option.map_eq_some_iff] at hf
  obtain ⟨⟨ds, s1⟩, h1, pd, h2, ⟨d1, pd1⟩, h3, h4⟩ := hf
  cases h4
  have h2 := potOf_eq h2
  refine wpAny_Call_Name_kw (thn ((pe_var (pos := p0) hN hv hd hcd).run pins s σ H (fun v H1 => v = .ref f ∧ H1 = H) I ⟨.ref f, atI, rfl, rfl⟩) fun u s2 ⟨v, H1, I1, r1, q1⟩ => ?_)
  obtain ⟨ev, eH⟩ := q1
  subst ev
  rw [eH] at I1
  obtain rfl : u = Value.ref f := r1
  refine PySem.W.callWith_F (first := []) (fnAt_of I1 (rl.base _ _ G.fn G.nf)) (thn (ha.run pos pins s2 σ H (fun vs H2 => Kq Z M H M H2 ∧ Rel X.K Z M σ H2 s1 ∧ DtAll X.K (Mu Z M) H2 vs ds) I1 ⟨M, s0, ds, s1, rl, h1, fun vs H2 k2 r2 t2 => ⟨k2, r2, t2⟩⟩) fun us s3 ⟨vs, H2, I2, r, k2, r2, t2⟩ => ?_) he hpl
  have fH := r2.base _ _ G.fn G.nf
  have cH := r2.base _ _ G.code G.nc
  refine ⟨fnAt_of I2 fH, ?_⟩
  obtain ⟨a, xs, g1, g2, g3, g4⟩ := r2.sl.getPot h2
  rw [G.pot] at g2
  cases g2
  have slot : slotAt σ 0 = some (.ref p) := slotAt_of g1
  obtain ⟨a', xs', e1, e2, e3, e4, e5⟩ := r2.at (i := 0) (ds := pd) (by unfold contents; rw [h2])
  rw [g1] at e1
  cases e1
  rw [g3] at e2
  cases e2
  show wpAny _ _ (call (.ref f) us) _ _ _
  refine run_n (mk := fun _ => F) (js := [0]) (sp := fun _ _ => spN X.K m) (c' := F.c) Fn hr hj hx I2 fH cH (by rw [show ([0].map (slotAt σ)) = [some (.ref p)] from by rw [List.map_singleton, slot]]; exact see pins σ H2 s3 I2 slot) r ?_
  refine ⟨Mu Z M, p, xs, pd, ds, _, pd1, by rw [List.map_singleton, slot], e4, r2.muT, g3, e3, t2, h3, fun v H3 xs2 a1 a2 t3 t4 => ?_⟩
  obtain ⟨r3, k3⟩ := e5 H3 xs2 pd1 a2 a1 t3
  exact k0 v H3 (k2.trans k3) r3 t4
end
theorem Made.to {Z Z' : Par} {f p : Addr} {F : NF} (G : Made Z f p F) (h0 : Z'.H0 = Z.H0) (hp : Z'.p = Z.p) : Made Z' f p F := ⟨by rw [h0]; exact G.fn, by rw [h0]; exact G.code, by rw [hp]; exact G.nf, by rw [hp]; exact G.nc, by rw [hp]; exact G.pot⟩
/-- in the def that makes it -/
theorem sees_def {X : Cx} {nsc : Scope} {y : Str} {p : Addr} (hfree : ∀ z ∈ nsc.names, z.2 = .free → X.env.scope.names.lookup z.1 = some .cell ∨ X.env.scope.names.lookup z.1 = some .free) (hy : (y, NameKind.free) ∈ nsc.names) (h0 : X.N[0]? = some y) : Sees X (cloFrom X.env.cells nsc.names []) y p := fun pins σ H s I slot => by
  have q := cells_of (js := [0]) I (Caps.made (fr := [y]) I.ok hfree (fun z hz => by rw [List.mem_singleton.mp hz]; exact hy) (by rw [List.map_singleton, h0]; rfl))
  rw [List.map_singleton, slot] at q
  exact q
theorem clo_sub {X : Cx} {nsc : Scope} (hfree : ∀ z ∈ nsc.names, z.2 = .free → X.env.scope.names.lookup z.1 = some .cell ∨ X.env.scope.names.lookup z.1 = some .free) (ok : X.Ok) : ∀ z c, (cloFrom X.env.cells nsc.names []).lookup z = some c → X.env.cells.lookup z = some c := fun z c e =>
  clo_cm (fun y hy k => (hfree y hy k).elim (fun z => ok.has _ (.inl z)) fun z => ok.has _ (.inr z)) e
theorem clo_away {X : Cx} {nsc : Scope} (hfree : ∀ z ∈ nsc.names, z.2 = .free → X.env.scope.names.lookup z.1 = some .cell ∨ X.env.scope.names.lookup z.1 = some .free) (hfn : ∀ z, X.fn z = true) : ∀ pins σ H s, Inv X pins σ H s → ∀ z c, (cloFrom X.env.cells nsc.names []).lookup z = some c → c ∉ frs X.stack := fun pins σ H s I z c e m => by
  have at_ := clo_sub hfree I.ok z c e
  rcases List.mem_cons.mp (I.stkSub c m) with k | k
  · obtain ⟨v, o, h1, h2⟩ := I.cell z c at_
    obtain ⟨mm, ⟨o', es, n, h3, h4, _⟩, _⟩ := I.loc
    rw [k, h3] at h1
    cases h1
    rw [h4] at h2
    cases h2
  · obtain ⟨_, o, h1, _⟩ := I.ok.funs.mem k
    exact absurd (Nat.lt_of_lt_of_le (Heap.lt_size h1) (I.ok.cab z c (hfn z) at_)) (Nat.lt_irrefl _)
/-! #### a comprehension in which it is called -/
def isPot0 : Option SV → Bool
  | some (.pot 0 _) => true
  | _ => false
theorem isPot0_eq {x : Option SV} (h : isPot0 x = true) : ∃ pd, x = some (.pot 0 pd) := by
  unfold isPot0 at h
  split at h
  · exact ⟨_, rfl⟩
  · cases h
def fPot (ff : DF) : DF := fun s => if isPot0 s[0]? = true then ff s else none
section
variable {X : Cx} {Z : Par} {fa : DE} {ff : DF} {cl : List (Str × Addr)} {y : Str} {p : Addr}
theorem flcTie {elt iter : Expr} {x : Str} {px pos : Pos} {scope : Scope} {j : Nat} (hc : X.calm = true) (hN : X.N.Nodup) (hi : PI X (.Name x px) iter (lfI X.K Z ff)) (ok : BlkOk X.N X.env.scope scope [(x, j)])
    (see : Sees X cl y p) (sub : X.Ok → ∀ z c, cl.lookup z = some c → X.env.cells.lookup z = some c) (away : ∀ pins σ H s, Inv X pins σ H s → ∀ z c, cl.lookup z = some c → c ∉ frs X.stack) (hp : Z.p[0]? = some p)
    (hg : ∀ (s : Shared) (H : Hp) (C : Addr) (l : List (Str × Addr)) (fp : List Addr), PG (X.blk s H scope (compEnvC scope l C X.env) fp) (.Name x px) (gName j))
    (he : ∀ (s : Shared) (H : Hp) (C : Addr) (l : List (Str × Addr)) (fp : List Addr) (Z' : Par), Z'.H0 = Z.H0 → Z'.p = Z.p → Sees (X.blk s H scope (compEnvC scope l C X.env) fp) cl y p → PE (X.blk s H scope (compEnvC scope l C X.env) fp) elt (lft X.K Z' fa)) (hs : ∀ x, foldedSetIterable iter X.env x = pure x := by intro _; rfl) :
    PE X (.ListComp elt [⟨.Name x px, iter, [], 0⟩] scope pos) (lfF X.K Z (fPot (fLc ff j tYesD fa))) := by
  refine PEimp (pe_lcTie (Cσ := fun σ => slotAt σ 0 = some (.ref p)) (te := fun σ H Q => ∃ Z', Z'.H0 = Z.H0 ∧ Z'.p = Z.p ∧ lft X.K Z' fa σ H Q) hc hN hi ok see sub away hg
    (fun s H0 C l fp tie => ⟨fun pins s' σ H Q I ⟨Z', z1, z2, q⟩ => (he s H0 C l fp Z' z1 z2 fun pins σ H s I _ => tie.later I).run pins s' σ H Q I q⟩) hs) fun σ H Q h => ?_
  obtain ⟨M, s, ds, s', rl, hf, k⟩ := h
  unfold fPot at hf
  split at hf
  case isFalse => cases hf
  rename_i ok0
  obtain ⟨pd, e0⟩ := isPot0_eq ok0
  obtain ⟨a, xs, g1, g2, _⟩ := rl.sl.getPot e0
  rw [hp] at g2
  cases g2
  exact ⟨slotAt_of g1, lift_lc (fun D σ H Q ⟨M, s, c, s', rl, hf, k⟩ => by
    cases hf
    exact k H (Kq.refl _ _ _) rl) (fun D _ _ _ q => ⟨Z.add D, rfl, rfl, q⟩) ⟨M, s, ds, s', rl, hf, k⟩⟩
end
end Dl

/-! ### a def that changes the list handed in first and its own table of code objects -/
namespace Dl
open PySem PySem.Spec PyProof.Rows L2 NdefX
def spMT (K : PySem.W.Frag) (T : Addr) (q : Str) (m : List PyData → List PyData → Option (PyData × List PyData)) : Sp := fun vs H Q _ => ∃ mu p xs pd rest ds d pd', vs = .ref p :: rest ∧ p ≠ T ∧ mu p ∧ mu T ∧ (∀ a, mu a → ∃ o, H a = some o) ∧ H p = some (.lst xs) ∧ Tabl H T q (fun c => ¬ mu c) ∧ DtAll K mu H xs pd ∧ DtAll K mu H rest ds ∧
  m pd ds = some (d, pd') ∧ ∀ v H' xs', (∀ a o, H a = some o → a ≠ p → a ≠ T → H' a = some o) → H' p = some (.lst xs') → Tabl H' T q (fun c => ¬ mu c) → DtAll K mu H' xs' pd' → Dt K mu H' v d → Q v H'
/-- f(x, ..), x a list that f may change, f's table at the place j -/
def dCallMT (j : Nat) (q : Str) (m : List PyData → List PyData → Option (PyData × List PyData)) (i : Nat) (g : DA) : DE := fun s => (contents s i).bind fun _ => (g s).bind fun p => (contents p.2 i).bind fun pd => if okTab p.2 j q = true then (m pd p.1).map fun r => (r.1, setC p.2 i r.2) else none
section
variable {K : PySem.W.Frag} {mu mu' : Addr → Prop} {H H' : Hp} {p : List Addr} {Z : Par} {M M' : List Addr} {σ : L2.St} {s : Sl} {q : Str}
theorem Rel.reTab {j : Nat} {T : Addr} {ps0 : Array Value} (rl : Rel K Z M σ H s) (hZ : Z.p[j]? = some T) (was : H T = some (.tbl ps0)) (stays : ∀ b o, b ≠ T → H b = some o → H' b = some o) (now : Tabl H' T q (fun c => ¬ Mu Z M c)) (ok : okTab s j q = true) : Rel K Z M σ H' s ∧ Kq Z M H M H' := by
  have hZm := List.mem_of_getElem? hZ
  unfold okTab at ok
  rw [Bool.and_eq_true] at ok
  have nM : ∀ a ∈ M, a ≠ T := fun a ha e => (rl.fr a ha).2.1 (by rw [e]; exact hZm)
  have nmu : ∀ a, ¬ Mu Z M a → a ≠ T := fun a n e => n (.inr (.inl (by rw [e]; exact hZm)))
  have kk : Kp (Mu Z M) H (Mu Z M) H' := fun a o e n => ⟨stays a o (nmu a n) e, n⟩
  have there : ∀ a o, H a = some o → ∃ u, H' a = some u := fun a o e => by
    by_cases z : a = T
    · obtain ⟨ps, g1, _⟩ := now
      exact ⟨_, by rw [z]; exact g1⟩
    · exact ⟨o, stays a o z e⟩
  refine ⟨⟨fun a o e n => stays a o (fun z => n (by rw [z]; exact hZm)) (rl.base a o e n), fun a ha => ?_, fun a ha => let ⟨o, e⟩ := rl.mz a ha; there a o e, fun a ha => let ⟨o, e⟩ := rl.pt a ha; there a o e, SlAll.reTab hZ was stays nM kk now Z.nd rl.sl (fun _ h => h) ok.2⟩,
    fun a o e n1 n2 => ⟨stays a o (fun z => n1 (by rw [z]; exact hZm)) e, n2⟩⟩
  obtain ⟨f1, f2, f3, o, f4⟩ := rl.fr a ha
  exact ⟨f1, f2, f3, there a o f4⟩
end
section
variable {X : Cx} {Z : Par} {a b e : Expr} {es : List Expr} {pos : Pos} {ga : DA} {k j : Nat} {f T : Addr} {fd : FuncData} {ps : List Str} {x q : Str} {p : Pos} {E : XK} {m : List PyData → List PyData → Option (PyData × List PyData)}
theorem lift_callMT {K : PySem.W.Frag} {i : Nat} {σ : L2.St} {H : Hp} {Q : VK} (hZ : Z.p[j]? = some T) (h : lft K Z (dCallMT j q m i ga) σ H Q) : tCall (spMT K T q m) [] E (tCons (tVar i) (lfA K Z ga)) σ H Q := by
  obtain ⟨M, s, d, s', rl, hf, k⟩ := h
  unfold dCallMT at hf
  simp only [Option.bind_eq_some_iff] at hf
  obtain ⟨pd0, h0, ⟨ds, s1⟩, h1, pd, h2, h3⟩ := hf
  dsimp only at h2 h3
  split at h3
  case isFalse => cases h3
  rename_i ok
  simp only [Option.map_eq_some_iff] at h3
  obtain ⟨⟨d1, pd1⟩, h3, h4⟩ := h3
  cases h4
  obtain ⟨a0, xs0, g1, _⟩ := rl.at h0
  refine ⟨.ref a0, g1, M, s, ds, s1, rl, h1, fun vs H1 k1 r1 t1 => ?_⟩
  show spMT K T q m ((V.ref a0 :: vs) ++ []) H1 Q E
  rw [List.append_nil]
  obtain ⟨a1, xs, e1, e2, e3, e4, e5⟩ := r1.at h2
  rw [g1] at e1
  cases e1
  have ok' := ok
  unfold okTab at ok'
  rw [Bool.and_eq_true] at ok'
  obtain ⟨T', eT, tab⟩ := r1.sl.tabAt ok'.1
  rw [hZ] at eT
  cases eT
  have tab' := tab
  obtain ⟨ps0, was, tr0, codes0⟩ := tab'
  have ne : a0 ≠ T := fun z => by rw [z, was] at e2; cases e2
  have muT : Mu Z M T := .inr (.inl (List.mem_of_getElem? hZ))
  refine ⟨Mu Z M, a0, xs, pd, vs, ds, _, pd1, rfl, ne, e4, muT, r1.muT, e2, tab, e3, t1, h3, fun v H2 xs2 g2 g3 g4 t2 t3 => ?_⟩
  -- in between: the table grown, the list as it was
  let H3 : Hp := upd H2 a0 (.lst xs)
  have at0 : H3 a0 = some (.lst xs) := upd_same
  have stays : ∀ b o, b ≠ T → H1 b = some o → H3 b = some o := fun b o n e => by
    by_cases z : b = a0
    · subst z
      rw [e2] at e
      cases e
      exact at0
    · exact (upd_ne z).trans (g2 b o e z n)
  have tab3 : Tabl H3 T q (fun c => ¬ Mu Z M c) := by
    obtain ⟨ps1, b1, b2, b3⟩ := g4
    refine ⟨ps1, (upd_ne ne.symm).trans b1, b2, fun pos cv z => ?_⟩
    obtain ⟨c, c1, c2, c3⟩ := b3 pos cv z
    exact ⟨c, c1, (upd_ne (fun w => c3 (by rw [w]; exact e4))).trans c2, c3⟩
  obtain ⟨r3, k3⟩ := r1.reTab hZ was stays tab3 ok
  obtain ⟨a3, xs3, m1, m2, m3, m4, m5⟩ := r3.at h2
  rw [g1] at m1
  cases m1
  obtain ⟨r4, k4⟩ := m5 H2 xs2 pd1 g3 (fun c o e n => by rwa [show H3 c = H2 c from upd_ne n] at e) t2
  exact k v H2 (k1.trans (k3.trans k4)) r4 t3
theorem dclMT (i : Nat) (c : Cal X.prog X.w X.K X.mg X.base j x ps (spMT X.K T q m)) {jz : Nat} (hZ : Z.p[jz]? = some T) (hr : Room k X.A) (hj : j ≤ k) (hg : Gl X x) (h1 : PE X e (tVar i)) (ha : PA X es (lfA X.K Z ga)) (hx : Passes CX0 X E0 := by exact pass0)
    (hdb : (x == ("__debug__" : Str)) = false := by decide) (he : starEach (e :: es) X.env = (false, eval e X.env) :: starEach es X.env := by rfl) (hpl : (backTo pos (starEach es X.env)).any (·.1) = false := by rfl) :
    PE X (.Call (.Name x p) (e :: es) [] pos) (lft X.K Z (dCallMT jz q m i ga)) := by
  obtain ⟨f, fd, F, hm, hk, hb⟩ := c
  exact PEimp (pe_call (F.mono hj) hr hg hm hk hb .nil hx (pa_cons h1 ha he) hdb he hpl) fun _ _ _ h => lift_callMT hZ h
end
/-- its code object, as the head has it -/
theorem code_at {K : PySem.W.Frag} {mg : Str → Option Value} {x : Str} {st : Stmt} (hm : mg x = some (.ref (He.fAd K (x, none)))) : ∀ f fd, mg x = some (.ref f) → Fun K x x st f fd → fd.code = .ref (He.codeOf K (x, none)) := fun f fd m F => by
  obtain rfl : f = He.fAd K (x, none) := Value.ref.inj (Option.some.inj (m.symm.trans hm))
  obtain ⟨⟨oc, od, kV, doc, pm, an, cdv, ct, osl, e1, lk, hcd⟩, kp⟩ := F
  obtain ⟨c, hc⟩ := He.codeIn_ref hcd
  have e : fd.code = .ref c := by subst e1; exact hc
  rw [He.codeOf_eq lk e]
  exact e
/-! #### the def, by its body -/
def startMT (N : List Str) (q : Str) (pd ds : List PyData) : Sl := SV.pot 0 pd :: (ds.map SV.dat ++ (List.replicate (N.length - 2 - ds.length) .no ++ [.tab 1 q]))
def outMT (q : Str) : Option Fl → Option (PyData × List PyData)
  | some (.rt d s) => if okTab s 1 q = true then (potOf s[0]?).map fun pd => (d, pd) else none
  | some (.nx s) => if okTab s 1 q = true then (potOf s[0]?).map fun pd => (.none, pd) else none
  | _ => none
def fnMT (N : List Str) (q : Str) (n : Nat) (b : DS) : List PyData → List PyData → Option (PyData × List PyData) := fun pd ds => if ds.length + 1 = n then outMT q (b (startMT N q pd ds)) else none
section
variable {P : Program} {w : World} {K : PySem.W.Frag} {mg : Str → Option Value} {base : Heap}
/-- what is known at the def's entry; the body's word at it -/
theorem calMT0 {x : Str} {st : Stmt} {N ps : List Str} {k : Nat} {c T : Addr} {q : Str} {m : List PyData → List PyData → Option (PyData × List PyData)} (F : Std K mg x st ps) (S : FnScope N ps (defScope st)) (hc : ∀ f fd, mg x = some (.ref f) → Fun K x x st f fd → fd.code = .ref c) (len : ∀ pd ds r, m pd ds = some r → ds.length + 1 = ps.length)
    (body : ∀ (f : Addr) (A : Around) (outer : List Env) (s : Shared) (H : Hp) (E : XK) (mu : Addr → Prop) (p : Addr) (xs : List V) (pd : List PyData) (rest : List V) (ds : List PyData) (d : PyData) (pd' : List PyData) (Q : VK), Room k (A.deeper (envOfC x (defScope st) s.heap.objs.size f (.ref c))) → p ≠ T → mu p → mu T → (∀ a, mu a → ∃ o, H a = some o) → H p = some (.lst xs) → Tabl H T q (fun c => ¬ mu c) → DtAll K mu H xs pd → DtAll K mu H rest ds → m pd ds = some (d, pd') →
      (∀ v H' xs', (∀ a o, H a = some o → a ≠ p → a ≠ T → H' a = some o) → H' p = some (.lst xs') → Tabl H' T q (fun c => ¬ mu c) → DtAll K mu H' xs' pd' → Dt K mu H' v d → Q v H') →
      ∃ t, PSs (cxOf CX0 P w K mg base N x (defScope st) f (.ref c) A outer s H E).nox (defBody st) t ∧ t { nx := fun _ H' => Q .non H', rt := Q } (start N (.ref p :: rest)) H) :
    Cal P w K mg base (k + 1) x ps (spMT K T q m) := by
  obtain ⟨f, fd, Fn, hm, hb⟩ := F
  have kp := Fn.kp
  have e := hc f fd hm Fn
  refine ⟨f, fd, ?_, hm, kp, hb⟩
  obtain ⟨⟨oc, od, kV, doc, pm, an, cdv, ct, osl, e1, lk, hcd⟩, _⟩ := Fn
  subst e1
  have e2 : cdv = .ref c := e
  subst e2
  refine fn_of lk hcd S (fun vs H Q E h => ?_) fun A outer s H vs Q E hr h => ?_
  · obtain ⟨mu, p, xs, pd, rest, ds, d, pd', rfl, hne, h0, h0', h1, h2, h2', h3, h4, h5, h6⟩ := h
    rw [List.length_cons, h4.len]
    exact len _ _ _ h5
  · obtain ⟨mu, p, xs, pd, rest, ds, d, pd', rfl, hne, h0, h0', h1, h2, h2', h3, h4, h5, h6⟩ := h
    obtain ⟨t, b1, b2⟩ := body f A outer s H E mu p xs pd rest ds d pd' Q hr hne h0 h0' h1 h2 h2' h3 h4 h5 h6
    exact ⟨t, b1.nox, b2⟩
/-- .. its names told as those of a def that changes a list, the table last -/
theorem calMT {x : Str} {st : Stmt} {N ps : List Str} {k : Nat} {c T : Addr} {q : Str} {b : DS} (F : Std K mg x st ps) (S : FnScope N ps (defScope st)) (hc : ∀ f fd, mg x = some (.ref f) → Fun K x x st f fd → fd.code = .ref c) (hN : ps.length < N.length)
    (hb : ∀ (f : Addr) (A : Around) (outer : List Env) (s : Shared) (H : Hp) (E : XK) (Z : Par), Z.p[1]? = some T → Room k (A.deeper (envOfC x (defScope st) s.heap.objs.size f (.ref c))) → PSs (cxOf CX0 P w K mg base N x (defScope st) f (.ref c) A outer s H E).nox (defBody st) (lfS K Z b)) :
    Cal P w K mg base (k + 1) x ps (spMT K T q (fnMT N q ps.length b)) := by
  refine calMT0 F S hc (fun pd ds r h => ?_) fun f A outer s H E mu p xs pd rest ds d pd' Q hr hne h0 h0' h1 h2 h2' h3 h4 h5 h6 => ?_
  · unfold fnMT at h
    split at h
    · assumption
    · cases h
  · unfold fnMT at h5
    split at h5
    case isFalse => cases h5
    rename_i hl
    unfold outMT at h5
    let Z : Par := ⟨H, [p, T], mu, by simpa using hne⟩
    refine ⟨_, hb f A outer s H E Z rfl hr, ?_⟩
    have inn : ∀ {a}, a ∈ Z.p → a = p ∨ a = T := fun {a} h => by simpa [Z] using h
    have muE : ∀ a, Mu Z [] a → mu a := fun a z => by
      rcases z with z | z | z
      · exact z
      · rcases inn z with e | e
        · rw [e]; exact h0
        · rw [e]; exact h0'
      · cases z
    have kk : Kp mu H (Mu Z []) H := fun a o e n => ⟨e, fun z => n (muE a z)⟩
    have tb := h2'
    obtain ⟨ps0, was, tr0, codes0⟩ := tb
    have r : Rel K Z [] (start N (.ref p :: rest)) H (startMT N q pd ds) := by
      refine ⟨fun a o e _ => e, fun a ha => (by cases ha), h1, fun a ha => ?_, ?_⟩
      · rcases inn ha with e | e
        · exact ⟨_, e ▸ h2⟩
        · exact ⟨_, e ▸ was⟩
      have e : start N (.ref p :: rest) = some (.ref p) :: (rest.map some ++ (List.replicate (N.length - 2 - ds.length) none ++ [none])) := by
        unfold L2.start
        rw [List.map_cons, List.length_cons, h4.len, List.cons_append]
        congr 2
        rw [← List.replicate_succ']
        congr 1
        omega
      rw [e]
      unfold startMT
      refine .pot (i := 0) rfl h2 (h3.mono kk) (slAll_data ?_ (h4.mono kk))
      have last : SlAll K (Mu Z []) Z.p H [none] [.tab 1 q] [] := .tab (i := 1) rfl was tr0 (fun pos cv z => let ⟨c, c1, c2, c3⟩ := codes0 pos cv z; ⟨c, c1, c2, fun w => c3 (muE c w)⟩) .nil
      generalize N.length - 2 - ds.length = n
      induction n with
      | zero => exact last
      | succ n ih => exact .no ih
    have fin : ∀ {M : List Addr} {σ : L2.St} {H1 : Hp} {s1 : Sl} {z : List PyData}, Rel K Z M σ H1 s1 → okTab s1 1 q = true → potOf s1[0]? = some z → ∃ xs1, H1 p = some (.lst xs1) ∧ DtAll K mu H1 xs1 z ∧ Tabl H1 T q (fun c => ¬ mu c) := fun {M σ H1 s1 z} r1 ok e => by
      obtain ⟨a, xs1, _, g2, g3, g4⟩ := r1.sl.getPot (potOf_eq e)
      cases g2
      unfold okTab at ok
      rw [Bool.and_eq_true] at ok
      obtain ⟨T', eT, tab⟩ := r1.sl.tabAt ok.1
      cases eT
      obtain ⟨ps1, b1, b2, b3⟩ := tab
      exact ⟨xs1, g3, g4.mono fun a o e n => ⟨e, fun z => n (.inl z)⟩, ps1, b1, b2, fun pos cv z => let ⟨c, c1, c2, c3⟩ := b3 pos cv z; ⟨c, c1, c2, fun w => c3 (.inl w)⟩⟩
    have bs : ∀ {M : List Addr} {σ : L2.St} {H1 : Hp} {s1 : Sl}, Rel K Z M σ H1 s1 → ∀ a o, H a = some o → a ≠ p → a ≠ T → H1 a = some o := fun r1 a o e n n' => r1.base a o e (fun z => (inn z).elim n n')
    split at h5
    · rename_i d1 s1 hq
      split at h5
      case isFalse => cases h5
      rename_i ok
      simp only [Option.map_eq_some_iff] at h5
      obtain ⟨z, hp, h5⟩ := h5
      cases h5
      refine ⟨[], _, _, r, hq, fun M σ H1 v k1 r1 t1 => ?_⟩
      obtain ⟨xs1, e1, e2, e3⟩ := fin r1 ok hp
      exact h6 v H1 xs1 (bs r1) e1 e3 e2 (t1.mono fun a o e n => ⟨e, fun z => n (.inl z)⟩)
    · rename_i s1 hq
      split at h5
      case isFalse => cases h5
      rename_i ok
      simp only [Option.map_eq_some_iff] at h5
      obtain ⟨z, hp, h5⟩ := h5
      cases h5
      refine ⟨[], _, _, r, hq, fun M σ H1 k1 r1 => ?_⟩
      obtain ⟨xs1, e1, e2, e3⟩ := fin r1 ok hp
      exact h6 _ H1 xs1 (bs r1) e1 e3 e2 .non
    · cases h5
end
/-! #### a def that makes a def of its own, and then does the rest with it -/
theorem SlAll.putRf {K : PySem.W.Frag} {mu : Addr → Prop} {q : List Addr} {H : Hp} {f : Addr} {σ : L2.St} {s : Sl} {M : List Addr} (t : SlAll K mu q H σ s M) : ∀ i : Nat, s[i]? = some .no → SlAll K mu q H (σ.set i (some (.ref f))) (s.set i (.rf f)) M := by
  induction t with
  | nil => intro i e; simp at e
  | no t ih => intro i e; cases i with
    | zero => exact .rf t
    | succ i => exact .no (ih i (by simpa using e))
  | rf t ih => intro i e; cases i with
    | zero => simp at e
    | succ i => exact .rf (ih i (by simpa using e))
  | dat h t ih => intro i e; cases i with
    | zero => simp at e
    | succ i => exact .dat h (ih i (by simpa using e))
  | own h d n t ih => intro i e; cases i with
    | zero => simp at e
    | succ i => exact .own h d n (ih i (by simpa using e))
  | pot h0 h d t ih => intro i e; cases i with
    | zero => simp at e
    | succ i => exact .pot h0 h d (ih i (by simpa using e))
  | tab h0 h d w t ih => intro i e; cases i with
    | zero => simp at e
    | succ i => exact .tab h0 h d w (ih i (by simpa using e))
  | dic h n t ih => intro i e; cases i with
    | zero => simp at e
    | succ i => exact .dic h n (ih i (by simpa using e))
section
variable {P : Program} {w : World} {K : PySem.W.Frag} {mg : Str → Option Value} {base : Heap}
theorem start_tab {mu : Addr → Prop} {Hx : Hp} {p T : Addr} {N : List Str} {q : Str} {xs : List V} {pd ds : List PyData} {rest : List V} {ps0 : Array Value} (hl : ds.length + 2 ≤ N.length) (h2 : Hx p = some (.lst xs)) (h3 : DtAll K mu Hx xs pd) (h4 : DtAll K mu Hx rest ds) (was : Hx T = some (.tbl ps0)) (tr : TriplesOk ps0.toList)
    (codes : ∀ (pos : Pos) (cv : Value), codeAmong pos ps0.toList = some cv → ∃ c, cv = .ref c ∧ Hx c = some (LamX.CodeO c q) ∧ ¬ mu c) : SlAll K mu [p, T] Hx (start N (.ref p :: rest)) (startMT N q pd ds) [] := by
  have e : start N (.ref p :: rest) = some (.ref p) :: (rest.map some ++ (List.replicate (N.length - 2 - ds.length) none ++ [none])) := by
    unfold L2.start
    rw [List.map_cons, List.length_cons, h4.len, List.cons_append]
    congr 2
    rw [← List.replicate_succ']
    congr 1
    omega
  rw [e]
  unfold startMT
  refine .pot (i := 0) rfl h2 h3 (slAll_data ?_ h4)
  have last : SlAll K mu [p, T] Hx [none] [.tab 1 q] [] := .tab (i := 1) rfl was tr codes .nil
  generalize N.length - 2 - ds.length = n
  induction n with
  | zero => exact last
  | succ n ih => exact .no ih
theorem calT {x y name : Str} {st nst : Stmt} {N ps : List Str} {k i : Nat} {c T : Addr} {q : Str} {rest : List Stmt} {m : List PyData → List PyData → Option (PyData × List PyData)} {b : Addr → DS} {pos : Pos}
    (F : Std K mg x st ps) (S : FnScope N ps (defScope st)) (hc : ∀ f fd, mg x = some (.ref f) → Fun K x x st f fd → fd.code = .ref c) (TB : LamX.TabB base mg c T) (hst : defBody st = nst :: rest)
    (hn : nst = .FunctionDef name (C8.fnArgs nst) (C8.fnBody nst) [] none [] (C8.fnScope nst) none name pos) (hq : q = x ++ ".<locals>." ++ name) (hi : N[i]? = some name) (hloc : (defScope st).names.lookup name = some .local ∨ (defScope st).names.lookup name = some .cell)
    (hfree : ∀ z ∈ (C8.fnScope nst).names, z.2 = .free → (defScope st).names.lookup z.1 = some .cell ∨ (defScope st).names.lookup z.1 = some .free) (hy : (y, NameKind.free) ∈ (C8.fnScope nst).names) (h0 : N[0]? = some y) (hd0 : (C8.fnArgs nst).defaults = []) (hk0 : (C8.fnArgs nst).kw_defaults = [])
    (ann : ∀ env, annTrees (C8.fnArgs nst) none env = [])
    (hm : ∀ pd ds d pd', m pd ds = some (d, pd') → ds.length + 1 = ps.length ∧ ds.length + 2 ≤ N.length ∧ (startMT N q pd ds)[i]? = some .no ∧ ∀ f, ∃ s', b f ((startMT N q pd ds).set i (.rf f)) = some (.rt d s') ∧ okTab s' 1 q = true ∧ potOf s'[0]? = some pd')
    (hrest : ∀ (X : Cx) (f p c' : Addr) (Z : Par), Made Z f p (NF.of nst name q (cloFrom X.env.cells (C8.fnScope nst).names []) c') → Sees X (cloFrom X.env.cells (C8.fnScope nst).names []) y p → (X.Ok → ∀ z c, (cloFrom X.env.cells (C8.fnScope nst).names []).lookup z = some c → X.env.cells.lookup z = some c) →
      (∀ pins σ H s, Inv X pins σ H s → ∀ z c, (cloFrom X.env.cells (C8.fnScope nst).names []).lookup z = some c → c ∉ frs X.stack) → (∃ (g : Addr) (A : Around) (outer : List Env) (s : Shared) (H : Hp) (E : XK), X = (cxOf CX0 P w K mg base N x (defScope st) g (.ref c) A outer s H E).nox ∧ Room k X.A) → PSs X rest (lfS K Z (b f))) :
    Cal P w K mg base (k + 1) x ps (spMT K T q m) := by
  refine calMT0 F S hc (fun pd ds r h => (hm pd ds r.1 r.2 h).1) fun g A outer s H E mu p xs pd vs ds d pd' Q hr hne h0' h0'' h1 h2 h2' h3 h4 h5 h6 => ?_
  obtain ⟨hl, hl2, hno, hb⟩ := hm pd ds d pd' h5
  rw [hst]
  have X0 : (cxOf CX0 P w K mg base N x (defScope st) g (.ref c) A outer s H E).nox.env.scope = defScope st := rfl
  refine ⟨_, pss_cons (ps_ndefT (i := i) (q := q) (P := T) (c := c) hn TB rfl (by rw [hq]; rfl) hfree hd0 hk0 (ann _) S.nd hi hloc (.inl rfl)) (u := fun D σ Hh => ∃ f c' Z, Made Z f p (NF.of nst name q (cloFrom (cxOf CX0 P w K mg base N x (defScope st) g (.ref c) A outer s H E).nox.env.cells (C8.fnScope nst).names []) c') ∧ lfS K Z (b f) D σ Hh)
    ⟨fun pins s' σ H' D I ⟨f, c', Z, G, r⟩ => (hrest _ f p c' Z G (sees_def hfree hy h0) (clo_sub hfree) (clo_away hfree fun _ => rfl) ⟨g, A, outer, s, H, E, rfl, hr⟩).run pins s' σ H' D I r⟩, ?_⟩
  refine ⟨fun c => ¬ mu c, h2', fun f c' H1 stays tab1 f0 f1 c1 => ?_⟩
  have atp : H1 p = some (.lst xs) := stays _ _ hne h2
  obtain ⟨ps1, b1, b2, b3⟩ := tab1
  have tb := h2'
  obtain ⟨ps0, was, _, _⟩ := tb
  let Z : Par := ⟨H1, [p, T], mu, by simpa using hne⟩
  have inn : ∀ {a}, a ∈ Z.p → a = p ∨ a = T := fun {a} h => by simpa [Z] using h
  have muE : ∀ a, Mu Z [] a → mu a := fun a z => by
    rcases z with z | z | z
    · exact z
    · rcases inn z with e | e
      · rw [e]; exact h0'
      · rw [e]; exact h0''
    · cases z
  have kk : Kp mu H (Mu Z []) H1 := fun a o e n => ⟨stays a o (fun z => n (by rw [z]; exact h0'')) e, fun z => n (muE a z)⟩
  have notin : ∀ {a}, H1 a ≠ some (.lst xs) → (∀ ps, H1 a ≠ some (.tbl ps)) → a ∉ Z.p := fun {a} n1 n2 m => (inn m).elim (fun e => n1 (e ▸ atp)) fun e => n2 _ (e ▸ b1)
  refine ⟨f, c', Z, ⟨f1, c1, notin (fun e => ?_) fun ps e => ?_, notin (fun e => ?_) fun ps e => ?_, rfl⟩, ?_⟩
  · rw [f1] at e; cases e
  · rw [f1] at e; exact fnO_ne ps (Option.some.inj e)
  · have e : H1 c' = some (.lst xs) := e
    rw [c1] at e; cases e
  · have e : H1 c' = some (.tbl ps) := e
    rw [c1] at e; exact LamX.codeO_ne ps (Option.some.inj e)
  · obtain ⟨s', e1, e2, e3⟩ := hb f
    have r : Rel K Z [] ((start N (.ref p :: vs)).set i (some (.ref f))) H1 ((startMT N q pd ds).set i (.rf f)) := by
      refine ⟨fun a o e _ => e, fun a ha => (by cases ha), fun a ha => ?_, fun a ha => ?_, SlAll.putRf ?_ i hno⟩
      · by_cases z : a = T
        · exact ⟨_, z ▸ b1⟩
        · obtain ⟨o, e⟩ := h1 a ha
          exact ⟨o, stays a o z e⟩
      · rcases inn ha with e | e
        · exact ⟨_, e ▸ atp⟩
        · exact ⟨_, e ▸ b1⟩
      · refine start_tab hl2 atp (h3.mono kk) (h4.mono kk) b1 b2 fun pos cv z => ?_
        obtain ⟨c2, g1, g2, g3⟩ := b3 pos cv z
        refine ⟨c2, g1, g2, fun w => ?_⟩
        have w := muE _ w
        rcases g3 with g3 | g3
        · exact g3 w
        · obtain ⟨o, e⟩ := h1 _ w
          rw [g3] at e; cases e
    refine ⟨[], _, _, r, e1, fun M σ H2 v k1 r1 t1 => ?_⟩
    obtain ⟨a, xs2, _, a2, a3, a4⟩ := r1.sl.getPot (potOf_eq e3)
    cases a2
    have ok := e2
    unfold okTab at ok
    rw [Bool.and_eq_true] at ok
    obtain ⟨T', eT, ps2, d1, d2, d3⟩ := r1.sl.tabAt ok.1
    cases eT
    refine h6 v H2 xs2 (fun a o e n n' => r1.base a o (stays a o n' e) fun z => (inn z).elim n n') a3 ⟨ps2, d1, d2, fun pos cv z => let ⟨c, c1, c2, c3⟩ := d3 pos cv z; ⟨c, c1, c2, fun w => c3 (.inl w)⟩⟩ (a4.mono fun a o e n => ⟨e, fun z => n (.inl z)⟩) (t1.mono fun a o e n => ⟨e, fun z => n (.inl z)⟩)
end
end Dl

/-! the law walked, some defs' tables hidden -/
namespace Dl
open PySem PySem.Spec PyProof.Rows L2
def tabsFrom : Nat → List Str → Sl
  | _, [] => []
  | i, q :: r => .tab i q :: tabsFrom (i + 1) r
def startTs (N : List Str) (qs : List Str) (ds : List PyData) : Sl := ds.map SV.dat ++ (List.replicate (N.length - qs.length - ds.length) .no ++ tabsFrom 0 qs)
def fnTs (N : List Str) (qs : List Str) (n : Nat) (b : DS) : List PyData → Option PyData := fun ds => if ds.length = n then outP (b (startTs N qs ds)) else none
theorem slAll_tabs {K : PySem.W.Frag} {mu : Addr → Prop} {H : Hp} {Ts : List Addr} (h : ∀ T ∈ Ts, H T = some (.tbl #[])) : ∀ (qs : List Str) (i : Nat), i + qs.length = Ts.length → SlAll K mu Ts H (List.replicate qs.length none) (tabsFrom i qs) []
  | [], _, _ => .nil
  | q :: r, i, e => by
    rw [List.length_cons] at e
    have l : i < Ts.length := by omega
    exact .tab (List.getElem?_eq_getElem l) (h _ (List.getElem_mem l)) trivial (fun pos cv z => by
      have z' : codeAmong pos [] = some cv := z
      simp [codeAmong] at z') (slAll_tabs h r (i + 1) (by omega))
theorem slAll_nos2 {K : PySem.W.Frag} {mu : Addr → Prop} {H : Hp} {q : List Addr} {σ : L2.St} {s : Sl} (t : SlAll K mu q H σ s []) : ∀ n : Nat, SlAll K mu q H (List.replicate n none ++ σ) (List.replicate n .no ++ s) []
  | 0 => t
  | n + 1 => .no (slAll_nos2 t n)
section
variable {P : Program} {w : World} {K : PySem.W.Frag} {mg mb : Str → Option Value}
theorem law_hereM {x p : Str} {qs : List Str} {st : Stmt} {fa a c0 : Addr} {cts : List (Addr × Addr)} {fd : FuncData} {N : List Str} {k : Nat} {b : DS} {s₁ : Shared} {vs : List Value} {ns : List Int}
    (KX : K.In s₁.heap) (hns : s₁.heap.Ns mainGlobals mg) (hbl : s₁.heap.Ns builtinsNs mb) (hbb : ∀ y : Str, y ≠ "__name__" → mb y = bootBuiltins y) (hlim : s₁.heap.NoLimit) (hmo : ∃ mm, s₁.heap.Ns sysModules mm) (hg : s₁.gens = #[])
    (ha : s₁.heap.get? a = some { cls := .type "list", data := .seq vs.toArray }) (hi : IntsAre vs ns) (few : ns.length ≤ sizeLine) (room : Room (k + 1) callerA) (F : Fun K x x st fa fd) (S : FnScope N [p] (defScope st)) (bt : ∀ (s : Shared) (u : Value), BindsTo s fd ⟨[u], []⟩ [(p, u)])
    (hT : ∀ q ∈ cts, s₁.heap.get? q.2 = some { cls := .none, data := .fields #[] }) (nT : ∀ q ∈ cts, K.lookup q.2 = none) (C : ∀ q ∈ cts, PySem.W.CodeHd s₁.heap q.1 q.2) (nd : (cts.map (·.2)).Nodup) (hcd : fd.code = .ref c0)
    (hbm : ∃ (bm : Addr) (ob : Obj), mg "__builtins__" = some (.ref bm) ∧ bm ≠ builtinsNs ∧ s₁.heap.get? bm = some ob ∧ ob.cls = .type "module" ∧ ob.dict = some builtinsNs ∧ ob.data = .plain) (len2 : 1 + cts.length ≤ N.length) (lq : qs.length = cts.length)
    (body : ∀ (base : Heap) (s : Shared) (H : Hp) (Z : Par), Mod K mg base → Room k (callerA.deeper (envOfC x (defScope st) s.heap.objs.size fa (.ref c0))) → CG (cxOf CX0 P w K mg base N x (defScope st) fa (.ref c0) callerA [] s H E0).nox → (∀ q ∈ cts, LamX.TabB base mg q.1 q.2) → Z.p = cts.map (·.2) →
      PSs (cxOf CX0 P w K mg base N x (defScope st) fa (.ref c0) callerA [] s H E0).nox (defBody st) (lfS K Z b))
    (true_ : fnTs N qs 1 b [.dict [(.none, .list (ns.map .int))]] = some (.bool true)) :
    codeAny (model P w) callerA (.call (.ref fa) ⟨[.ref a], []⟩) (fun r s' => r = .ok (.ret (.bool true)) ∧ OldK s₁.heap s'.heap ∧ s'.os = s₁.os ∧ AllBare s'.gens) s₁ := by
  obtain ⟨G, gok, hG, here⟩ := script_in (P := P) (w := w) KX ha hi few
  let Ts : List Addr := cts.map (·.2)
  have isT : ∀ T ∈ Ts, s₁.heap.get? T = some { cls := .none, data := .fields #[] } := fun T h => by
    obtain ⟨q, hq, rfl⟩ := List.mem_map.mp h
    exact hT q hq
  have aT : ∀ T ∈ Ts, T ≠ a := fun T h e => by
    have := isT T h
    rw [e, ha] at this
    cases this
  have nT' : ∀ T ∈ Ts, K.lookup T = none := fun T h => by
    obtain ⟨q, hq, rfl⟩ := List.mem_map.mp h
    exact nT q hq
  let H : Hp := fun b => if b ∈ Ts then some (.tbl #[]) else G b
  have atT : ∀ T ∈ Ts, H T = some (.tbl #[]) := fun T h => if_pos h
  have elseT : ∀ b, b ∉ Ts → H b = G b := fun b h => if_neg h
  have gT : ∀ T ∈ Ts, G T = none := fun T h => by
    cases z : G T with
    | none => rfl
    | some u => exact absurd (hG T u z).1 (aT T h)
  have fromG : ∀ b u, G b = some u → H b = some u := fun b u e => by
    rw [elseT b fun h => by rw [gT b h] at e; cases e]; exact e
  have hH : ∀ b u, H b = some u → (b ∈ Ts ∧ u = .tbl #[]) ∨ (b = a ∧ K.lookup a = none ∧ ∃ o u', u = .frz o u') := fun b u z => by
    by_cases e : b ∈ Ts
    · rw [atT b e] at z
      cases z
      exact .inl ⟨e, rfl⟩
    · rw [elseT b e] at z
      obtain ⟨rfl, h2⟩ := hG b u z
      exact .inr ⟨rfl, h2⟩
  have hok : HOk P w H s₁.heap := fun b u z => by
    rcases hH b u z with ⟨m, rfl⟩ | ⟨rfl, _, o, u', rfl⟩
    · exact isT b m
    · rw [elseT b (fun m => aT b m rfl)] at z
      exact (gok b _ z).stay (fun _ _ _ r => r) (fun c r => fromG _ _ r) fun c xs r => fromG _ _ r
  have free_of : ∀ {b : Addr} {o : Obj}, s₁.heap.get? b = some o → (∀ vs n, o.data ≠ .seq vs n) → o.data ≠ .fields #[] → H b = none := fun {b o} e h1 h2 => by
    cases z : H b with
    | none => rfl
    | some u =>
      rcases hH b u z with ⟨m, _⟩ | ⟨rfl, _⟩
      · rw [isT b m] at e
        cases e
        exact absurd rfl h2
      · rw [ha] at e
        cases e
        exact absurd rfl (h1 _ _)
  have dict_free : ∀ {b : Addr} {o : Obj} {es : Array DictEntry} {n : Nat}, s₁.heap.get? b = some o → o.data = .dict es n → H b = none := fun {b o es n} e d => free_of e (fun _ _ z => by rw [d] at z; cases z) (fun z => by rw [d] at z; cases z)
  have ns_in : ∀ {b : Addr} {m : Str → Option Value}, s₁.heap.Ns b m → (hidT s₁.heap H).Ns b m := fun ⟨o, es, n, e, d, r⟩ => ⟨o, es, n, hidT_get e (dict_free e d), d, r⟩
  have mod : Mod K mg (hidT s₁.heap H) := {
    kin := fun b o e => hidT_get (KX b o e) (by
      cases z : H b with
      | none => rfl
      | some u =>
        rcases hH b u z with ⟨m, _⟩ | ⟨rfl, q, _⟩
        · rw [nT' b m] at e; cases e
        · rw [q] at e; cases e)
    glob := ns_in hns
    blt := ⟨mb, ns_in hbl, hbb⟩
    nolimit := let ⟨mc, q1, q2⟩ := hlim; ⟨mc, ns_in q1, q2⟩ }
  have TB : ∀ q ∈ cts, LamX.TabB (hidT s₁.heap H) mg q.1 q.2 := fun q hq => by
    refine ⟨?_, ?_, fun z => ?_⟩
    · obtain ⟨o, us, file, tf, flags, tg, inF, text, tt, e1, r1, r2, r3, r4, r5, r6, r7, r8, hne⟩ := C q hq
      refine ⟨o, us, file, tf, flags, tg, inF, text, tt, hidT_get e1 (free_of e1 (fun vs n z => ?_) fun z => ?_), r1, r2, r3, r4, r5, r6, r7, r8, hne⟩
      · rw [r2] at z; cases z
      · rw [r2] at z
        cases z
        simp at r3
    · obtain ⟨bm, ob, b1, b2, b3, b4, b5, b6⟩ := hbm
      refine ⟨bm, ob, b1, b2, fun e => ?_, fun e => ?_, hidT_get b3 (free_of b3 (fun vs n z => ?_) fun z => ?_), b4, b5, b6⟩
      · obtain ⟨o, es, n, e3, d, _⟩ := hns
        rw [e, e3] at b3
        cases b3
        rw [d] at b6
        cases b6
      · rw [e, hT q hq] at b3
        cases b3
        cases b6
      · rw [b6] at z; cases z
      · rw [b6] at z; cases z
    · obtain ⟨o, es, n, e, d, _⟩ := hns
      rw [z, hT q hq] at e
      cases e
      cases d
  have e0 : Env0 P w K mg (hidT s₁.heap H) callerA [] s₁ H := ⟨rfl, mod, fun _ _ e => of_hidT e, by rw [hidT_size]; exact Nat.le_refl _, trivial, fun c hc => (by cases hc), hok, .of_eq hg⟩
  have sys : ∃ o es n, (hidT s₁.heap H).get? sysModules = some o ∧ o.data = .dict es n := by
    obtain ⟨mm, o, es, n, e, d, _⟩ := hmo
    exact ⟨o, es, n, hidT_get e (dict_free e d), d⟩
  let Z : Par := ⟨H, Ts, fun _ => False, nd⟩
  have only : ∀ b, Mu Z [] b → b ∈ Ts := fun b z => by
    rcases z with z | z | z
    · exact z.elim
    · exact z
    · cases z
  have td : Dt K (Mu Z []) H (.ref a) (.dict [(.none, .list (ns.map .int))]) := .scr (here.imp (fun z => ⟨z.imp (fun z => fromG _ _ z) fun ⟨o, z⟩ => ⟨o, fromG _ _ z⟩, fun z => aT a (only a z) rfl⟩) id) (dtAll_ints ns)
  have lt : Ts.length = cts.length := List.length_map _
  have rel : Rel K Z [] (L2.start N [.ref a]) H (startTs N qs [.dict [(.none, .list (ns.map .int))]]) := by
    refine ⟨fun _ _ e _ => e, fun _ z => (by cases z), fun _ z => z.elim, fun b z => ⟨_, atT b z⟩, ?_⟩
    obtain ⟨n, hn⟩ : ∃ n, N.length = n + qs.length + 1 := ⟨N.length - 1 - qs.length, by omega⟩
    have e1 : L2.start N [.ref a] = some (.ref a) :: (List.replicate n none ++ List.replicate qs.length none) := by
      unfold L2.start
      rw [List.length_singleton, hn, List.replicate_append_replicate]
      rfl
    have e2 : startTs N qs [.dict [(.none, .list (ns.map .int))]] = .dat (.dict [(.none, .list (ns.map .int))]) :: (List.replicate n .no ++ tabsFrom 0 qs) := by
      unfold startTs
      rw [List.length_singleton, hn, show n + qs.length + 1 - qs.length - 1 = n by omega]
      rfl
    rw [e1, e2]
    exact .dat td (slAll_nos2 (slAll_tabs atT qs 0 (by omega)) n)
  have ready : lfS K Z b { nx := fun _ H' => False, rt := fun v _ => v = .bl true } (L2.start N [.ref a]) H := by
    have tr : outP (b (startTs N qs [.dict [(.none, .list (ns.map .int))]])) = some (.bool true) := by
      unfold fnTs at true_
      rw [if_pos (show [PyData.dict [(PyData.none, PyData.list (ns.map PyData.int))]].length = 1 from rfl)] at true_
      exact true_
    clear true_
    unfold outP at tr
    split at tr
    · rename_i d1 s1 hq
      cases tr
      exact ⟨_, _, _, rel, hq, fun M σ H1 v k1 r1 t1 => t1.bool⟩
    · cases tr
    · cases tr
  obtain ⟨⟨oc, od, kV, doc, pm, an, cdv, ct, osl, e1, lk, hcdv⟩, kp⟩ := F
  subst e1
  have ecd : cdv = .ref c0 := hcd
  subst ecd
  have slots : ∀ y ∈ [(p, Value.ref a)], (defScope st).names.lookup y.1 = some .local ∨ ((defScope st).names.lookup y.1 = some .cell ∧ ((cellsFrom (s₁.heap.objs.size + 1) (defScope st).names []).lookup y.1).isSome = true) := fun y hy => by
    obtain rfl := List.mem_singleton.mp hy
    exact (S.par p (List.mem_singleton.mpr rfl)).imp id fun z => ⟨z, PySem.W.cellsFrom_some _ _ _ (.inl z)⟩
  have ran : codeAny (model P w) callerA (.call (.ref fa) ⟨[.ref a], []⟩) (CR CX0 [] P w H s₁ (fun v _ => v = .bl true) E0) s₁ := by
    refine codeAny_call_function room.depth (KX _ _ lk) rfl S.co S.gen rfl (PySem.W.codeRec_of KX hcdv) (bt s₁ (.ref a) _ _ _ _ (wpAny_newFunctionEnv_cells S.kind slots fun env he t0 io => ?_))
    cases he
    refine ⟨hlim.keeps io.toInCall.keep, codeAny_func ?_⟩
    have begun : Inv (cxOf CX0 P w K mg (hidT s₁.heap H) N x (defScope st) fa (.ref c0) callerA [] s₁ H E0) [] (L2.start N [.ref a]) H t0 := inv_start S room.hd e0 rfl (.cons rfl .nil) io
    refine wpAny_mono ((body _ s₁ H Z mod (room.deeper _) ⟨rfl, by show 4 + 3 + 100 < 9900; omega, sys⟩ TB rfl).nox.run [] t0 _ H _ begun ready) (fun fl t1 done => ?_) fun _ _ z => z
    match fl, done with
    | .ret u, ⟨v, σ', H', J, rv, q⟩ => exact ⟨v, H', J.os, J.bare, J.base, J.hok, rv, q⟩
    | .next, ⟨_, _, _, z⟩ => exact z.elim
    | .brk, ⟨_, _, _, z⟩ => exact z.elim
    | .cont, ⟨_, _, _, z⟩ => exact z.elim
  refine codeAny_mono ran fun r t1 done => ?_
  match r, done with
  | .ok (.ret u), ⟨v, H', os, bare, un, ok', rv, q⟩ =>
    subst q
    obtain rfl : u = .bool true := rv
    have grown : ∀ T ∈ Ts, ∃ more, t1.heap.get? T = some { cls := .none, data := .fields more } := fun T m => by
      obtain ⟨more, hm⟩ := un.tbls T #[] (atT T m)
      rw [Array.empty_append] at hm
      exact ⟨more, ok' T _ hm⟩
    have same : ∀ b o, b ∉ Ts → s₁.heap.get? b = some o → t1.heap.get? b = some o := fun b o nb e => by
      cases z : H b with
      | none => exact un.keep b o e z (by simp [frs]) List.not_mem_nil
      | some u =>
        rcases hH b u z with ⟨m, _⟩ | ⟨rfl, _, o', u', rfl⟩
        · exact absurd m nb
        · have now := (ok' b _ (un.frzs b o' u' z)).1
          have was := (hok b _ z).1
          rw [was] at e
          cases e
          exact now
    refine ⟨rfl, ⟨fun b o e => ?_, fun b o e => ?_⟩, os, bare⟩
    · by_cases hb : b ∈ Ts
      · obtain ⟨more, hm⟩ := grown b hb
        obtain ⟨q, hq, eq⟩ := List.mem_map.mp hb
        have e' := isT b hb
        rw [e'] at e
        cases e
        subst eq
        exact .inr (.inl ⟨((C q hq).tab (hT q hq)).isCodeTable, rfl, #[], more, rfl, by rw [Array.empty_append]; exact hm⟩)
      · exact .inl (same b o hb e)
    · by_cases hb : b ∈ Ts
      · obtain ⟨more, hm⟩ := grown b hb
        exact ⟨_, hm⟩
      · exact ⟨o, same b o hb e⟩
  | .ok .next, z => exact z.elim
  | .ok .brk, z => exact z.elim
  | .ok .cont, z => exact z.elim
  | .error e, z => exact (show False from z).elim
end
def nodupB : List Addr → Bool
  | [] => true
  | a :: r => !r.contains a && nodupB r
theorem nodupB_ok : ∀ {l : List Addr}, nodupB l = true → l.Nodup
  | [], _ => .nil
  | a :: r, h => by
    unfold nodupB at h
    rw [Bool.and_eq_true, Bool.not_eq_true'] at h
    refine List.nodup_cons.mpr ⟨fun m => ?_, nodupB_ok h.2⟩
    have := h.1
    rw [List.contains_iff_mem.mpr m] at this
    cases this
/-- what the head looks at: constants, classes, built-in names of modules; the tables are several -/
def exBm (dds : List He.Defn) (cs : List (Str × PyData)) (bs : List (Str × String)) (nm ts : List Str) (K : PySem.W.Frag) : Bool := (exB cs nm ts K && bs.all (bnB K)) && nodupB (dds.map fun d => (He.cT K d).2)
theorem walk_dataM (dds : List He.Defn) {l : PySem.W.OpenLaw} {n k : Nat} {q : Program} {loose : List Str} {XP : (Str → Option Value) → Heap → Prop} {d : DefRec} {fa : List He.Fa} {fn : List He.DefD} {cs : List (Str × PyData)} {bs : List (Str × String)} {nm ts : List Str} {m : Nat} {p : Str} {qs : List Str} {st : Stmt} {N : List Str} {b : DS}
    (most : l.most = some n) (few : n ≤ sizeLine) (hdf : d.params.defaults = []) (name : d.name = "law") (alone : importsNone q = true) (room : Room (k + 1) callerA) (S : FnScope N [p] (defScope st)) (len2 : 1 + dds.length ≤ N.length) (lq : qs.length = dds.length)
    (F : ∀ (w : World) (mg : Str → Option Value) (h : Heap) (K : PySem.W.Frag), K.In h → h.Ns mainGlobals mg → He.SaysD fa fn K → cs.all (gcB K) = true → bs.all (bnB K) = true → ExF K mg nm ts → ∃ fd : FuncData, mg "law" = some (.ref (He.fAd K lawD)) ∧ Fun K "law" "law" st (He.fAd K lawD) fd ∧ (∀ (s : Shared) (u : Value), BindsTo s fd ⟨[u], []⟩ [(p, u)]) ∧
      ∀ (base : Heap) (c0 : Addr) (s : Shared) (H : Hp) (Z : Par), Mod K mg base → Room k (callerA.deeper (envOfC "law" (defScope st) s.heap.objs.size (He.fAd K lawD) (.ref c0))) → CG (cxOf CX0 l.prog w K mg base N "law" (defScope st) (He.fAd K lawD) (.ref c0) callerA [] s H E0).nox → (∀ d ∈ dds, LamX.TabB base mg (He.codeOf K d) (He.cT K d).2) → Z.p = dds.map (fun d => (He.cT K d).2) →
        PSs (cxOf CX0 l.prog w K mg base N "law" (defScope st) (He.fAd K lawD) (.ref c0) callerA [] s H E0).nox (defBody st) (lfS K Z b))
    (T : ∀ ns : List Int, ns.length ≤ n → fnTs N qs 1 b [.dict [(.none, .list (ns.map .int))]] = some (.bool true)) :
    PySem.W.WalkO q loose XP (He.hookX m fa fn [] dds (exBm dds cs bs nm ts)).says l.row.toRowW d [] (fun f vs => PySem.call f vs) := by
  refine Att.attach_call most hdf fun w s₀ s₁ mg mb f o pm cd doc a vs ns G Y _ _ _ hmg hobj hints hlen hg => ?_
  obtain ⟨K, X, Sy⟩ := Y
  have more2 := Sy.more
  unfold exBm at more2
  rw [Bool.and_eq_true, Bool.and_eq_true] at more2
  have more := more2.1.1
  unfold exB at more
  rw [Bool.and_eq_true] at more
  obtain ⟨fd, e, Fn, bt, body⟩ := F w mg _ K X G.T.g Sy.t.d more.1 more2.1.2 (exF_of X G.T.g more.2)
  rw [name] at hmg
  obtain rfl : f = He.fAd K lawD := Value.ref.inj (Option.some.inj (hmg.symm.trans e))
  obtain ⟨mm, sees, _⟩ := (G.T.seer alone).mods
  obtain ⟨c, hc⟩ : ∃ c, fd.code = .ref c := by
    obtain ⟨⟨oc, od, kV, doc, pm, an, cdv, ct, osl, e1, lk, hcdv⟩, kp⟩ := Fn
    subst e1
    exact He.codeIn_ref hcdv
  have of : ∀ q ∈ dds.map (He.cT K), ∃ d ∈ dds, q = He.cT K d := fun q hq => by
    obtain ⟨d, hd, rfl⟩ := List.mem_map.mp hq
    exact ⟨d, hd, rfl⟩
  refine law_hereM (cts := dds.map (He.cT K)) (qs := qs) X G.T.g G.T.b G.T.builtins G.T.nolimit ⟨mm, sees⟩ hg hobj hints (Nat.le_trans hlen few) room Fn S bt (fun q hq => ?_) (fun q hq => ?_) (fun q hq => ?_) (by
    rw [List.map_map]
    exact nodupB_ok more2.2) hc G.T.bmain (by rw [List.length_map]; exact len2) (by rw [List.length_map]; exact lq) (fun base s H Z M r cg tb hz => body base c s H Z M r cg (fun d hd => tb _ (List.mem_map_of_mem hd)) (by rw [hz, List.map_map]; rfl)) (T ns hlen)
  · obtain ⟨d, hd, rfl⟩ := of q hq
    exact Sy.empty d hd
  · obtain ⟨d, hd, rfl⟩ := of q hq
    exact Sy.out d hd
  · obtain ⟨d, hd, rfl⟩ := of q hq
    exact PySem.W.codeHd_of_K X (Sy.hd d hd)
end Dl

/-! ### a def that makes texts of things: its promise, its call -/
namespace Dl
open PySem PySem.Spec PyProof.Rows L2
def SysB (base : Heap) : Prop := ∃ o es n, base.get? sysModules = some o ∧ o.data = .dict es n
structure FnOkG (P : Program) (w : World) (K : PySem.W.Frag) (mg : Str → Option Value) (base : Heap) (k : Nat) (f : Addr) (fd : FuncData) (ps : List Str) (sp : Sp) : Prop where
  ln : ∀ vs H Q E, sp vs H Q E → vs.length = ps.length
  go : ∀ (A : Around) (fr : List Env) (t : Shared) (H : Hp) (args : Args) (us : List Value) (vs : List V) (Q : VK) (E : XK), Room k A → A.guards = some [] → Env0 P w K mg base A fr t H → BindsTo t fd args (ps.zip us) → Vals vs us → sp vs H Q E → codeAny (model P w) A (.call (.ref f) args) (CR CX0 fr P w H t Q E) t
theorem FnOkG.mono {P : Program} {w : World} {K : PySem.W.Frag} {mg : Str → Option Value} {base : Heap} {j k : Nat} {f : Addr} {fd : FuncData} {ps : List Str} {sp : Sp} (F : FnOkG P w K mg base j f fd ps sp) (h : j ≤ k) :
    FnOkG P w K mg base k f fd ps sp := ⟨F.ln, fun A fr t H args us vs Q E r => F.go A fr t H args us vs Q E (r.mono h)⟩
theorem okG {P : Program} {w : World} {K : PySem.W.Frag} {mg : Str → Option Value} {base : Heap} {x qual : Str} {st : Stmt} {f : Addr} {fd : FuncData} {N ps : List Str} {k : Nat} {sp : Sp} (F : Fun K x qual st f fd) (S : FnScope N ps (defScope st)) (ln : ∀ vs H Q E, sp vs H Q E → vs.length = ps.length)
    (bd : ∀ (cdv : Value) (A : Around) (fr : List Env) (t : Shared) (H : Hp) (vs : List V) (Q : VK) (E : XK), Room k (A.deeper (envOfC qual (defScope st) t.heap.objs.size f cdv)) → A.guards = some [] → sp vs H Q E →
      ∃ g, PSs (cxOf CX0 P w K mg base N qual (defScope st) f cdv A fr t H E).nox (defBody st) g ∧ g { nx := fun _ H' => Q .non H', rt := Q } (start N vs) H) : FnOkG P w K mg base (k + 1) f fd ps sp := by
  obtain ⟨oc, od, kV, doc, pm, an, cdv, ct, osl, rfl, at_, code⟩ := F.ex
  refine ⟨ln, fun A fr t H args us vs Q E room gd env bt r q => ?_⟩
  have kx : K.In t.heap := env.mod.kin.keeps fun b o e => (env.bs b o e).1
  have nl : t.heap.NoLimit := env.mod.nolimit.keeps fun b o e => (env.bs b o e).1
  have kinds : ∀ y ∈ ps.zip us, (defScope st).names.lookup y.1 = some .local ∨ ((defScope st).names.lookup y.1 = some .cell ∧ ((cellsFrom (t.heap.objs.size + 1) (defScope st).names []).lookup y.1).isSome = true) := by
    rintro ⟨n, v⟩ hy
    rcases S.par n (List.of_mem_zip hy).1 with z | z
    · exact .inl z
    · exact .inr ⟨z, PySem.W.cellsFrom_some _ _ _ (.inl z)⟩
  refine codeAny_call_function room.depth (kx _ _ at_) rfl S.co S.gen rfl (PySem.W.codeRec_of kx code) (bt _ _ _ _ ?_)
  refine wpAny_newFunctionEnv_cells S.kind kinds fun ev he t1 xk => ?_
  subst he
  refine ⟨nl.keeps xk.toInCall.keep, codeAny_func ?_⟩
  obtain ⟨g, pg, gq⟩ := bd cdv A fr t H vs Q E (room.deeper _) gd q
  have J : Inv (cxOf CX0 P w K mg base N qual (defScope st) f cdv A fr t H E) [] (start N vs) H t1 := inv_start S room.hd env (ln _ _ _ _ q) r xk
  have out : ∀ {σ' : L2.St} {H' : Hp} {v : V} {u : Value} {t' : Shared}, Inv (cxOf CX0 P w K mg base N qual (defScope st) f cdv A fr t H E) [] σ' H' t' → RelV v u → Q v H' → CE fr P w H t Q u t' :=
    fun {σ' H' v u t'} I rv z => ⟨v, H', I.os, I.bare, I.base, I.hok, rv, z⟩
  refine wpAny_mono (pg.nox.run [] t1 (start N vs) H _ J gq) (fun fl t' hs => ?_) fun e t' hs => hs
  match fl, hs with
  | .ret u, ⟨v, σ', H', I, rv, z⟩ => exact out I rv z
  | .next, ⟨σ', H', I, z⟩ => exact out (v := V.non) (u := Value.none) I rfl z
  | .brk, ⟨_, _, _, z⟩ => exact z.elim
  | .cont, ⟨_, _, _, z⟩ => exact z.elim
def CalG (P : Program) (w : World) (K : PySem.W.Frag) (mg : Str → Option Value) (base : Heap) (k : Nat) (x : Str) (ps : List Str) (sp : Sp) : Prop := ∃ (f : Addr) (fd : FuncData), FnOkG P w K mg base k f fd ps sp ∧ mg x = some (.ref f) ∧ PySem.W.keepIn K (.ref f) = true ∧ Binds K fd ps []
theorem okGc {c : Addr} {P : Program} {w : World} {K : PySem.W.Frag} {mg : Str → Option Value} {base : Heap} {x qual : Str} {st : Stmt} {f : Addr} {fd : FuncData} {N ps : List Str} {k : Nat} {sp : Sp} (F : Fun K x qual st f fd) (hcd : fd.code = .ref c) (S : FnScope N ps (defScope st)) (ln : ∀ vs H Q E, sp vs H Q E → vs.length = ps.length)
    (bd : ∀ (A : Around) (fr : List Env) (t : Shared) (H : Hp) (vs : List V) (Q : VK) (E : XK), Room k (A.deeper (envOfC qual (defScope st) t.heap.objs.size f (.ref c))) → A.guards = some [] → sp vs H Q E →
      ∃ g, PSs (cxOf CX0 P w K mg base N qual (defScope st) f (.ref c) A fr t H E).nox (defBody st) g ∧ g { nx := fun _ H' => Q .non H', rt := Q } (start N vs) H) : FnOkG P w K mg base (k + 1) f fd ps sp := by
  obtain ⟨oc, od, kV, doc, pm, an, cdv, ct, osl, rfl, at_, code⟩ := F.ex
  have ec : cdv = .ref c := hcd
  subst ec
  refine ⟨ln, fun A fr t H args us vs Q E room gd env bt r q => ?_⟩
  have kx : K.In t.heap := env.mod.kin.keeps fun b o e => (env.bs b o e).1
  have nl : t.heap.NoLimit := env.mod.nolimit.keeps fun b o e => (env.bs b o e).1
  have kinds : ∀ y ∈ ps.zip us, (defScope st).names.lookup y.1 = some .local ∨ ((defScope st).names.lookup y.1 = some .cell ∧ ((cellsFrom (t.heap.objs.size + 1) (defScope st).names []).lookup y.1).isSome = true) := by
    rintro ⟨n, v⟩ hy
    rcases S.par n (List.of_mem_zip hy).1 with z | z
    · exact .inl z
    · exact .inr ⟨z, PySem.W.cellsFrom_some _ _ _ (.inl z)⟩
  refine codeAny_call_function room.depth (kx _ _ at_) rfl S.co S.gen rfl (PySem.W.codeRec_of kx code) (bt _ _ _ _ ?_)
  refine wpAny_newFunctionEnv_cells S.kind kinds fun ev he t1 xk => ?_
  subst he
  refine ⟨nl.keeps xk.toInCall.keep, codeAny_func ?_⟩
  obtain ⟨g, pg, gq⟩ := bd A fr t H vs Q E (room.deeper _) gd q
  have J : Inv (cxOf CX0 P w K mg base N qual (defScope st) f (.ref c) A fr t H E) [] (start N vs) H t1 := inv_start S room.hd env (ln _ _ _ _ q) r xk
  have out : ∀ {σ' : L2.St} {H' : Hp} {v : V} {u : Value} {t' : Shared}, Inv (cxOf CX0 P w K mg base N qual (defScope st) f (.ref c) A fr t H E) [] σ' H' t' → RelV v u → Q v H' → CE fr P w H t Q u t' :=
    fun {σ' H' v u t'} I rv z => ⟨v, H', I.os, I.bare, I.base, I.hok, rv, z⟩
  refine wpAny_mono (pg.nox.run [] t1 (start N vs) H _ J gq) (fun fl t' hs => ?_) fun e t' hs => hs
  match fl, hs with
  | .ret u, ⟨v, σ', H', I, rv, z⟩ => exact out I rv z
  | .next, ⟨σ', H', I, z⟩ => exact out (v := V.non) (u := Value.none) I rfl z
  | .brk, ⟨_, _, _, z⟩ => exact z.elim
  | .cont, ⟨_, _, _, z⟩ => exact z.elim
section
variable {X : Cx} {k : Nat} {f : Addr} {fd : FuncData} {ps : List Str} {sp : Sp} {x : Str} {p pos : Pos} {e : Expr} {es : List Expr} {t : TA} {Z : Par} {ga : DA}
theorem pe_callG (F : FnOkG X.prog X.w X.K X.mg X.base k f fd ps sp) (cg : X.A.guards = some []) (hr : Room k X.A) (hg : Gl X x) (hm : X.mg x = some (.ref f)) (hk : PySem.W.keepIn X.K (.ref f) = true) (hb : Binds X.K fd ps [])
    (hx : Passes CX0 X E0) (ha : PA X (e :: es) t) (hdb : (x == ("__debug__" : Str)) = false) (he : starEach (e :: es) X.env = (false, eval e X.env) :: starEach es X.env) (hpl : (backTo pos (starEach es X.env)).any (·.1) = false) :
    PE X (.Call (.Name x p) (e :: es) [] pos) (tCall sp [] E0 t) := by
  refine ⟨fun pins s σ H Q I h => wpAny_Call_Name_kw (ld_glob I hg hm ?_ hdb)⟩
  refine PySem.W.callWith_K (h₀ := X.base) I.ok.mod.kin hk (thn (ha.run pos pins s σ H _ I h) fun us s1 ⟨vs, H1, I1, r, q⟩ => ⟨I1.kIn, ?_⟩) he hpl
  have q : sp (vs ++ []) H1 Q E0 := q
  rw [List.append_nil] at q
  have hl : us.length = ps.length := by rw [← r.length]; exact F.ln _ _ _ _ q
  refine wpAny_call (codeAny_mono (F.go X.A X.stack s1 H1 ⟨us, []⟩ us vs Q E0 hr cg I1.env0 (by have := hb s1 us I1.kIn (by rw [List.append_nil]; exact hl); rwa [List.append_nil] at this) r q) fun r s' z => ?_)
  match r, z with
  | .error e, z => exact hx pins σ H1 s1 e s' I1 z
  | .ok (.ret u), z => exact I1.after z
  | .ok .next, z => exact z.elim
  | .ok .brk, z => exact z.elim
  | .ok .cont, z => exact z.elim
end
end Dl

namespace Dl
open PySem PySem.Spec PyProof.Rows L2
section
variable {P : Program} {w : World} {K : PySem.W.Frag} {mg : Str → Option Value} {base : Heap}
/-- a def that changes a list and its own table, and makes texts of things -/
theorem calMTG {x : Str} {st : Stmt} {N ps : List Str} {k : Nat} {c T : Addr} {q : Str} {b : DS} (F : Std K mg x st ps) (S : FnScope N ps (defScope st)) (hc : ∀ f fd, mg x = some (.ref f) → Fun K x x st f fd → fd.code = .ref c) (sys : SysB base) (hN : ps.length < N.length)
    (hb : ∀ (f : Addr) (A : Around) (outer : List Env) (s : Shared) (H : Hp) (E : XK) (Z : Par), Z.p[1]? = some T → Room k (A.deeper (envOfC x (defScope st) s.heap.objs.size f (.ref c))) → CG (cxOf CX0 P w K mg base N x (defScope st) f (.ref c) A outer s H E).nox → PSs (cxOf CX0 P w K mg base N x (defScope st) f (.ref c) A outer s H E).nox (defBody st) (lfS K Z b)) :
    CalG P w K mg base (k + 1) x ps (spMT K T q (fnMT N q ps.length b)) := by
  obtain ⟨f, fd, Fn, hm, hb2⟩ := F
  refine ⟨f, fd, okGc Fn (hc f fd hm Fn) S (fun vs H Q E h => ?_) (fun A outer s H vs Q E hr gd h => ?_), hm, Fn.kp, hb2⟩
  · obtain ⟨mu, p, xs, pd, rest, ds, d, pd', rfl, hne, h0, h0', h1, h2, h2', h3, h4, h5, h6⟩ := h
    unfold fnMT at h5
    split at h5
    · rename_i hl
      rw [List.length_cons, h4.len]; exact hl
    · cases h5
  · obtain ⟨mu, p, xs, pd, rest, ds, d, pd', rfl, hne, h0, h0', h1, h2, h2', h3, h4, h5, h6⟩ := h
    unfold fnMT at h5
    split at h5
    case isFalse => cases h5
    rename_i hl
    unfold outMT at h5
    let Z : Par := ⟨H, [p, T], mu, by simpa using hne⟩
    refine ⟨_, hb f A outer s H E Z rfl hr ⟨gd, by have := hr.un; show (A.deeper _).units + 100 < _; omega, sys⟩, ?_⟩
    have inn : ∀ {a}, a ∈ Z.p → a = p ∨ a = T := fun {a} h => by simpa [Z] using h
    have muE : ∀ a, Mu Z [] a → mu a := fun a z => by
      rcases z with z | z | z
      · exact z
      · rcases inn z with e | e
        · rw [e]; exact h0
        · rw [e]; exact h0'
      · cases z
    have kk : Kp mu H (Mu Z []) H := fun a o e n => ⟨e, fun z => n (muE a z)⟩
    have tb := h2'
    obtain ⟨ps0, was, tr0, codes0⟩ := tb
    have r : Rel K Z [] (start N (.ref p :: rest)) H (startMT N q pd ds) := by
      refine ⟨fun a o e _ => e, fun a ha => (by cases ha), h1, fun a ha => ?_, ?_⟩
      · rcases inn ha with e | e
        · exact ⟨_, e ▸ h2⟩
        · exact ⟨_, e ▸ was⟩
      have e : start N (.ref p :: rest) = some (.ref p) :: (rest.map some ++ (List.replicate (N.length - 2 - ds.length) none ++ [none])) := by
        unfold L2.start
        rw [List.map_cons, List.length_cons, h4.len, List.cons_append]
        congr 2
        rw [← List.replicate_succ']
        congr 1
        omega
      rw [e]
      unfold startMT
      refine .pot (i := 0) rfl h2 (h3.mono kk) (slAll_data ?_ (h4.mono kk))
      have last : SlAll K (Mu Z []) Z.p H [none] [.tab 1 q] [] := .tab (i := 1) rfl was tr0 (fun pos cv z => let ⟨c, c1, c2, c3⟩ := codes0 pos cv z; ⟨c, c1, c2, fun w => c3 (muE c w)⟩) .nil
      generalize N.length - 2 - ds.length = n
      induction n with
      | zero => exact last
      | succ n ih => exact .no ih
    have fin : ∀ {M : List Addr} {σ : L2.St} {H1 : Hp} {s1 : Sl} {z : List PyData}, Rel K Z M σ H1 s1 → okTab s1 1 q = true → potOf s1[0]? = some z → ∃ xs1, H1 p = some (.lst xs1) ∧ DtAll K mu H1 xs1 z ∧ Tabl H1 T q (fun c => ¬ mu c) := fun {M σ H1 s1 z} r1 ok e => by
      obtain ⟨a, xs1, _, g2, g3, g4⟩ := r1.sl.getPot (potOf_eq e)
      cases g2
      unfold okTab at ok
      rw [Bool.and_eq_true] at ok
      obtain ⟨T', eT, tab⟩ := r1.sl.tabAt ok.1
      cases eT
      obtain ⟨ps1, b1, b2, b3⟩ := tab
      exact ⟨xs1, g3, g4.mono fun a o e n => ⟨e, fun z => n (.inl z)⟩, ps1, b1, b2, fun pos cv z => let ⟨c, c1, c2, c3⟩ := b3 pos cv z; ⟨c, c1, c2, fun w => c3 (.inl w)⟩⟩
    have bs : ∀ {M : List Addr} {σ : L2.St} {H1 : Hp} {s1 : Sl}, Rel K Z M σ H1 s1 → ∀ a o, H a = some o → a ≠ p → a ≠ T → H1 a = some o := fun r1 a o e n n' => r1.base a o e (fun z => (inn z).elim n n')
    split at h5
    · rename_i d1 s1 hq
      split at h5
      case isFalse => cases h5
      rename_i ok
      simp only [Option.map_eq_some_iff] at h5
      obtain ⟨z, hp, h5⟩ := h5
      cases h5
      refine ⟨[], _, _, r, hq, fun M σ H1 v k1 r1 t1 => ?_⟩
      obtain ⟨xs1, e1, e2, e3⟩ := fin r1 ok hp
      exact h6 v H1 xs1 (bs r1) e1 e3 e2 (t1.mono fun a o e n => ⟨e, fun z => n (.inl z)⟩)
    · rename_i s1 hq
      split at h5
      case isFalse => cases h5
      rename_i ok
      simp only [Option.map_eq_some_iff] at h5
      obtain ⟨z, hp, h5⟩ := h5
      cases h5
      refine ⟨[], _, _, r, hq, fun M σ H1 k1 r1 => ?_⟩
      obtain ⟨xs1, e1, e2, e3⟩ := fin r1 ok hp
      exact h6 _ H1 xs1 (bs r1) e1 e3 e2 .non
    · cases h5
end
section
variable {X : Cx} {Z : Par} {a b e : Expr} {es : List Expr} {pos : Pos} {ga : DA} {k j : Nat} {T : Addr} {ps : List Str} {x q : Str} {p : Pos} {m : List PyData → List PyData → Option (PyData × List PyData)}
theorem dclMTG (i : Nat) (c : CalG X.prog X.w X.K X.mg X.base j x ps (spMT X.K T q m)) {jz : Nat} (hZ : Z.p[jz]? = some T) (cg : CG X) (hr : Room k X.A) (hj : j ≤ k) (hg : Gl X x) (h1 : PE X e (tVar i)) (ha : PA X es (lfA X.K Z ga)) (hx : Passes CX0 X E0 := by exact pass0)
    (hdb : (x == ("__debug__" : Str)) = false := by decide) (he : starEach (e :: es) X.env = (false, eval e X.env) :: starEach es X.env := by rfl) (hpl : (backTo pos (starEach es X.env)).any (·.1) = false := by rfl) :
    PE X (.Call (.Name x p) (e :: es) [] pos) (lft X.K Z (dCallMT jz q m i ga)) := by
  obtain ⟨f, fd, F, hm, hk, hb⟩ := c
  exact PEimp (pe_callG F cg.gd (hr.mono hj) hg hm hk hb hx (pa_cons h1 ha he) hdb he hpl) fun _ _ _ h => lift_callMT hZ h
end
end Dl

/-! ### variant B: zip's pairs are taken apart at once -/
namespace Dl
open PySem PySem.Spec PyProof.Rows L2
/-- what a zip gives: a tuple that is known by its parts alone -/
def Pr (K : PySem.W.Frag) (mu : Addr → Prop) (H : Hp) (x : V) (d : PyData) : Prop := ∃ a xs ds, x = .ref a ∧ d = .tuple ds ∧ SqT K H a xs ∧ DtAll K mu H xs ds
def YieldsG (K : PySem.W.Frag) (mu : Addr → Prop) (H : Hp) (J : It) (ds : List PyData) : Prop := ∀ mu' H', Kp mu H mu' H' → (∀ a, mu' a → ∃ o, H' a = some o) → ∀ i, (i < ds.length → J.go i H' ∧ ∀ x H'', J.yld i H' x H'' → (∀ b o, H' b = some o → H'' b = some o) ∧ ∃ d, ds[i]? = some d ∧ Pr K mu' H'' x d) ∧ (ds.length ≤ i → J.stop i H')
theorem YieldsG.mono {K : PySem.W.Frag} {mu mu' : Addr → Prop} {H H' : Hp} {J : It} {ds : List PyData} (h : YieldsG K mu H J ds) (k : Kp mu H mu' H') : YieldsG K mu' H' J ds := fun m2 H2 k2 i => h m2 H2 (k.trans k2) i
def lfIG (K : PySem.W.Frag) (Z : Par) (f : DF) : TI := fun σ H R => ∃ M s ds s', Rel K Z M σ H s ∧ f s = some (ds, s') ∧ ∀ J H', Kq Z M H M H' → Rel K Z M σ H' s' → YieldsG K (Mu Z M) H' J ds → R J H'
def zipD : PyData → PyData → Option (List PyData)
  | .list a, .list b => some (List.zipWith (fun x y => .tuple [x, y]) a b)
  | .tuple a, .tuple b => some (List.zipWith (fun x y => .tuple [x, y]) a b)
  | _, _ => none
def itZ (f g : DE) : DF := fun s => (f s).bind fun p => (g p.2).bind fun q => (zipD p.1 q.1).map fun ds => (ds, q.2)
theorem yields_pair {K : PySem.W.Frag} {mu' : Addr → Prop} {H' H'' : Hp} {a b : List PyData} {xs ys : List V} {i : Nat} {v : V} (ta : DtAll K mu' H' xs a) (tb : DtAll K mu' H' ys b) (hm : ∀ a, mu' a → ∃ o, H' a = some o) (hi : i < (List.zipWith (fun x y => PyData.tuple [x, y]) a b).length)
    (h : ∃ T x y, v = .ref T ∧ H' T = none ∧ H'' = upd H' T (.tup [x, y]) ∧ xs[i]? = some x ∧ ys[i]? = some y) : (∀ b o, H' b = some o → H'' b = some o) ∧ ∃ d, (List.zipWith (fun x y => PyData.tuple [x, y]) a b)[i]? = some d ∧ Pr K mu' H'' v d := by
  obtain ⟨T, x, y, rfl, hT, rfl, h1, h2⟩ := h
  rw [List.length_zipWith] at hi
  have ia : i < a.length := by omega
  have ib : i < b.length := by omega
  obtain ⟨x', g1, t1⟩ := ta.get (List.getElem?_eq_getElem ia)
  obtain ⟨y', g2, t2⟩ := tb.get (List.getElem?_eq_getElem ib)
  rw [h1] at g1
  rw [h2] at g2
  cases g1
  cases g2
  refine ⟨grow_new hT, .tuple [a[i], b[i]], ?_, ?_⟩
  · rw [List.getElem?_zipWith, List.getElem?_eq_getElem ia, List.getElem?_eq_getElem ib]
  · have kk : Kp mu' H' mu' (upd H' T (.tup [x, y])) := kp_grow (grow_new hT)
    exact ⟨_, [x, y], _, rfl, rfl, .inl (.inl upd_same), .cons (t1.mono kk) (.cons (t2.mono kk) .nil)⟩
theorem yields_zipL {K : PySem.W.Frag} {mu : Addr → Prop} {H : Hp} {p q : Addr} {a b : List PyData} (t : Dt K mu H (.ref p) (.list a)) (u : Dt K mu H (.ref q) (.list b)) : YieldsG K mu H (Itz K p q) (List.zipWith (fun x y => .tuple [x, y]) a b) := fun mu' H' k hm i => by
  obtain ⟨_, xs, e1, h1, h2⟩ := (t.mono k).list
  obtain ⟨_, ys, e2, h3, h4⟩ := (u.mono k).list
  cases e1
  cases e2
  refine ⟨fun hi => ?_, fun hi => ?_⟩
  · have hi' := hi
    rw [List.length_zipWith] at hi'
    obtain ⟨x, g1, _⟩ := h2.get (List.getElem?_eq_getElem (show i < a.length by omega))
    obtain ⟨y, g2, _⟩ := h4.get (List.getElem?_eq_getElem (show i < b.length by omega))
    refine ⟨⟨xs, ys, x, y, h1, h3, g1, g2⟩, fun v H'' hy => ?_⟩
    obtain ⟨T, x, y, e1, e2, e3, e4, e5⟩ := hy
    exact yields_pair h2 h4 hm hi ⟨T, x, y, e1, e2, e3, e4 xs h1, e5 ys h3⟩
  · rw [List.length_zipWith] at hi
    exact ⟨xs, ys, h1, h3, by rw [h2.len, h4.len]; omega⟩
theorem yields_zipT {K : PySem.W.Frag} {mu : Addr → Prop} {H : Hp} {p q : Addr} {a b : List PyData} (t : Dt K mu H (.ref p) (.tuple a)) (u : Dt K mu H (.ref q) (.tuple b)) : YieldsG K mu H (RZ.ItzT K p q) (List.zipWith (fun x y => .tuple [x, y]) a b) := fun mu' H' k hm i => by
  obtain ⟨_, xs, e1, h1, h2⟩ := (t.mono k).tuple
  obtain ⟨_, ys, e2, h3, h4⟩ := (u.mono k).tuple
  cases e1
  cases e2
  refine ⟨fun hi => ?_, fun hi => ?_⟩
  · have hi' := hi
    rw [List.length_zipWith] at hi'
    obtain ⟨x, g1, _⟩ := h2.get (List.getElem?_eq_getElem (show i < a.length by omega))
    obtain ⟨y, g2, _⟩ := h4.get (List.getElem?_eq_getElem (show i < b.length by omega))
    refine ⟨⟨xs, ys, x, y, h1, h3, g1, g2⟩, fun v H'' hy => ?_⟩
    obtain ⟨T, x, y, e1, e2, e3, e4, e5⟩ := hy
    exact yields_pair h2 h4 hm hi ⟨T, x, y, e1, e2, e3, e4 xs h1, e5 ys h3⟩
  · rw [List.length_zipWith] at hi
    exact ⟨xs, ys, h1, h3, by rw [h2.len, h4.len]; omega⟩
section
variable {X : Cx} {Z : Par} {tg a b e : Expr} {elts : List Expr} {kk : Nat} {pos p tpos : Pos} {fa fb : DE} {ff : DF} {f : DS} {g : TG} {gd : PyData → Sl → Option Sl}
theorem pizip (hg : Gl X "zip") (hm : X.mg "zip" = none) (ha : PE X a (lft X.K Z fa)) (hb : PE X b (lft X.K Z fb)) (hs : starEach [a, b] X.env = (false, eval a X.env) :: starEach [b] X.env := by rfl) (hs2 : starEach [b] X.env = [(false, eval b X.env)] := by rfl) (hpl : (backTo pos (starEach [b] X.env)).any (·.1) = false := by rfl) :
    PI X (.Tuple elts kk tpos) (.Call (.Name "zip" p) [a, b] [] pos) (lfIG X.K Z (itZ fa fb)) := PIimp (RZ.pi_zipA hg hm (pa_cons ha (pa_cons hb pa_nil hs2) hs) hs hpl) fun σ H R h => by
  obtain ⟨M, s, ds, s', rl, hf, k⟩ := h
  unfold itZ at hf
  simp only [Option.bind_eq_some_iff, Option.map_eq_some_iff] at hf
  obtain ⟨⟨d1, s1⟩, h1, ⟨d2, s2⟩, h2, zs, h3, h4⟩ := hf
  cases h4
  dsimp only at h2 h3
  unfold zipD at h3
  split at h3
  · cases h3
    refine ⟨M, s, _, s1, rl, h1, fun v H1 k1 r1 t1 => ⟨M, s1, _, s2, r1, h2, fun w H2 k2 r2 t2 => ?_⟩⟩
    have t1 := t1.mono k2.kp
    obtain ⟨q1, xs, rfl, g1, _⟩ := t1.list
    obtain ⟨q2, ys, rfl, g2, _⟩ := t2.list
    exact ⟨q1, q2, xs, ys, rfl, .inl ⟨g1, g2, k _ H2 (k1.trans k2) r2 (yields_zipL t1 t2)⟩⟩
  · cases h3
    refine ⟨M, s, _, s1, rl, h1, fun v H1 k1 r1 t1 => ⟨M, s1, _, s2, r1, h2, fun w H2 k2 r2 t2 => ?_⟩⟩
    have t1 := t1.mono k2.kp
    obtain ⟨q1, xs, rfl, g1, _⟩ := t1.tuple
    obtain ⟨q2, ys, rfl, g2, _⟩ := t2.tuple
    exact ⟨q1, q2, xs, ys, rfl, .inr ⟨g1, g2, k _ H2 (k1.trans k2) r2 (yields_zipT t1 t2)⟩⟩
  · cases h3
def TgP (K : PySem.W.Frag) (g : TG) (gd : PyData → Sl → Option Sl) : Prop := ∀ (Z : Par) (M : List Addr) (σ : L2.St) (H : Hp) (s s' : Sl) (x : V) (d : PyData) (Q : L2.St → Hp → Prop), Rel K Z M σ H s → Pr K (Mu Z M) H x d → gd d s = some s' →
  (∀ M' σ', Rel K Z M' σ' H s' → Kq Z M H M' H → Q σ' H) → g x σ H Q
theorem tgtP {K : PySem.W.Frag} {n : Nat} {gs : TGs} {gds : List (PyData → Sl → Option Sl)} (hn : n = gds.length) (hs : TgsOk K gs (tgTs gds)) : TgP K (gTup K n gs) (tgT gds) := fun Z M σ H s s' x d Q r t e k => by
  obtain ⟨a, xs, ds, rfl, rfl, h1, h2⟩ := t
  exact ⟨a, xs, rfl, h1, by rw [h2.len, tgTs_len e, hn], hs Z M σ H s s' xs ds Q r h2 e k⟩
theorem lift_forG {K : PySem.W.Frag} (hg : TgP K g gd) {D : Ends} {σ : L2.St} {H : Hp} (h : lfS K Z (sFor ff gd f) D σ H) : tFor (lfIG K Z ff) g (lfS K Z f) D σ H := by
  obtain ⟨M, s, fl, rl, hf, k⟩ := h
  unfold sFor at hf
  simp only [Option.bind_eq_some_iff] at hf
  obtain ⟨⟨ds, s1⟩, h1, h2⟩ := hf
  dsimp only at h2
  refine ⟨M, s, ds, s1, rl, h1, fun J H1 k1 r1 y => ?_⟩
  refine ⟨fun i m σ' H' => m = ds.length - i ∧ i ≤ ds.length ∧ ∃ M' s', Kq Z M H1 M' H' ∧ Rel K Z M' σ' H' s' ∧ runFor gd f (ds.drop i) s' = some fl, ⟨ds.length, by simp, Nat.zero_le _, M, s1, Kq.refl _ _ _, r1, h2⟩, ?_⟩
  rintro i m σ' H' ⟨rfl, hi, M', s', k2, r2, h3⟩
  by_cases hlt : i < ds.length
  · have ed : ds.drop i = ds[i] :: ds.drop (i + 1) := List.drop_eq_getElem_cons hlt
    rw [ed] at h3
    unfold runFor at h3
    simp only [Option.bind_eq_some_iff] at h3
    obtain ⟨s2, e1, fl1, e2, e3⟩ := h3
    refine .inr ⟨((y _ _ k2.kp r2.muT i).1 hlt).1, fun σ3 H3 => ∃ M3 s3, Kq Z M H1 M3 H3 ∧ Rel K Z M3 σ3 H3 s3 ∧ runFor gd f (ds.drop (i + 1)) s3 = some fl, fun σ3 H3 q => ⟨ds.length - (i + 1), by omega, rfl, hlt, q⟩, fun x H'' hy => ?_⟩
    obtain ⟨gr, d, e4, e5⟩ := ((y _ _ k2.kp r2.muT i).1 hlt).2 x H'' hy
    rw [List.getElem?_eq_getElem hlt] at e4
    cases e4
    have kg : Kq Z M' H' M' H'' := kq_grow gr
    refine hg Z M' σ' H'' s' s2 x _ _ (r2.grow gr) e5 e1 fun M3 σ3 r3 k3 => ?_
    refine ⟨M3, s2, fl1, r3, e2, ?_⟩
    have kk : Kq Z M H M3 _ := k1.trans (k2.trans (kg.trans k3))
    cases fl1 with
    | nx s4 => exact fun M4 σ4 H4 k4 r4 => ⟨M4, s4, k2.trans (kg.trans (k3.trans k4)), r4, e3⟩
    | ct s4 => exact fun M4 σ4 H4 k4 r4 => ⟨M4, s4, k2.trans (kg.trans (k3.trans k4)), r4, e3⟩
    | bk s4 => cases e3; exact fun M4 σ4 H4 k4 r4 => k M4 σ4 H4 (kk.trans k4) r4
    | rt d4 s4 => cases e3; exact fun M4 σ4 H4 v4 k4 r4 t4 => k M4 σ4 H4 v4 (kk.trans k4) r4 t4
  · have e : i = ds.length := by omega
    subst e
    rw [List.drop_length] at h3
    cases h3
    exact .inl ⟨(y _ _ k2.kp r2.muT _).2 (Nat.le_refl _), k M' σ' H' (k1.trans k2) r2⟩
theorem sforG {iter : Expr} {body : List Stmt} (hp : PassesOwn (model X.prog X.w) X.A X.env X.xe) (hc : X.calm = true) (hi : PI X tg iter (lfIG X.K Z ff)) (hg : PG X tg g) (hgd : TgP X.K g gd) (hb : PSs X body (lfS X.K Z f))
    (hs : ∀ x, foldedSetIterable iter X.env x = pure x := by intro _; rfl) : PS X (.For tg iter body [] pos) (lfS X.K Z (sFor ff gd f)) := PSimp (ps_for hp hc hi hg hb hs) fun _ _ _ h => lift_forG hgd h
end
end Dl

/-! ### len(set(..)) of a list of texts -/
namespace Dl
open PySem PySem.Spec PyProof.Rows L2
section
variable {P : Program} {w : World} {A : Around} {E : Value → Shared → Prop} {s : Shared}
set_option maxHeartbeats 8000000 in
theorem call_set_textsL {l : Addr} {items : Array Value} (zs : List Str) {Q : Value → Shared → Prop} (cold : A.handled = none) (hl : s.heap.IsList l items) (hit : StrsAre items.toList zs) (few : zs.length + 1 < scanBound)
    (h : ∀ (h' : Heap) (tk : Nat), h'.SetOf (PySem.strKind P w) s.heap.objs.size (fun k => decide (k ∈ zs)) (unl zs zs.length) → (∀ b o, s.heap.get? b = some o → h'.get? b = some o) → Q (.ref s.heap.objs.size) { s with heap := h', toks := tk }) :
    wpAny (model P w) A (call (.type "set") [.ref l]) Q E s := by
  have size : items.size = zs.length := by
    have q := StrsAre.length hit
    rw [Array.length_toList] at q
    exact q
  obtain ⟨c, tl, hmro⟩ := F.called_set.mro
  have hmade := F.called_set.made
  have hsub := F.called_set.sub
  refine wpAny_call (codeAny_of_tree ?_)
  show wpAny _ _ (callAny (.type "set") _) _ _ _
  refine wpAny_pure ⟨Code.quiet_builtin _ (by decide +kernel), codeAny_builtin F.entry_type_call ?_⟩
  rw [Around.under_plain (weight_type_call_type "set" [.ref l] []) rfl]
  have h1 := F.called_set.notType
  have h2 := F.called_set.canCreate
  have hct := F.typeCall_set_1 (.ref l)
  repeat (any_goals (first | assumption | wp_step))
  refine codeAny_mono (code_set_led1 (.ref l) (E := E) (Q₁ := fun obj s₁ => obj = .ref s.heap.objs.size ∧ s₁ = { s with heap := s.heap.push (emptySet w) }) ⟨rfl, rfl⟩) fun r s₁ hr => ?_
  cases r with
  | error e => exact hr
  | ok fl =>
    cases fl with
    | ret obj =>
      obtain ⟨rfl, rfl⟩ := hr
      have hS : (s.heap.push (emptySet w)).get? s.heap.objs.size = some (emptySet w) := Heap.get?_push_size _ rfl
      have hT : Shared.TypeIs { s with heap := s.heap.push (emptySet w) } (.ref s.heap.objs.size) "set" := ⟨_, hS, rfl⟩
      have hli := F.called_set.init.lookup
      have hbi := F.called_set.init.bind (.ref s.heap.objs.size)
      repeat (any_goals (first | assumption | wp_step))
      refine codeAny_mono (codeAny_call_builtin (R := wants (fun r s₂ => r = .none ∧ ∃ h' tk, s₂ = { s with heap := h', toks := tk } ∧ h'.SetOf (PySem.strKind P w) s.heap.objs.size (fun k => decide (k ∈ zs)) (unl zs zs.length) ∧
          (∀ b o, s.heap.get? b = some o → h'.get? b = some o)) E) F.called_set.init.plain F.entry_set_init (check_set_init_1 hT ?_)) fun r₂ s₂ hr₂ => ?_
      · obtain ⟨⟨ocls, odict, odata, oslots⟩, hol, hcl, nl, hdl⟩ := hl
        simp only at hcl hdl
        subst hcl hdl
        have hol' : (s.heap.push (emptySet w)).get? l = some { cls := .type "list", dict := odict, data := .seq items nl, slots := oslots } := Heap.get?_push_of_some _ hol
        have hsls := F.sub_list_set
        have hslf := F.sub_list_frozenset
        have hne : (Value.type "list" == Value.type "dict") = false := by decide
        have hl1 : (s.heap.push (emptySet w)).IsList l items := ⟨_, hol', rfl, nl, rfl⟩
        unfold Builtin.«set.__init__» noKeywords Builtin.Frozenset.updateFrom
        generalize hPI : pyIter = PI
        wp_walk
        subst hPI
        refine wpAny_pyIter_list hl1 ?_
        refine wpAny_bind (wpAny_runValue ?_)
        have lS : l < s.heap.objs.size := Heap.lt_size hol
        have cold3 : A.in1.in1.in1.handled = none := by simp [cold]
        have apart : l ≠ (s.heap.push (emptySet w)).objs.size := by
          rw [Heap.size_push]; exact Nat.ne_of_lt (Nat.lt_succ_of_lt lS)
        have out : s.heap.objs.size ∉ [(s.heap.push (emptySet w)).objs.size, l] := by
          rw [Heap.size_push]; simp only [List.mem_cons, List.mem_singleton, List.not_mem_nil, or_false, not_or]
          exact ⟨Nat.ne_of_lt (Nat.lt_succ_self _), Nat.ne_of_gt lS⟩
        have vals : ∀ (i : Nat) (v : Value), items[i]? = some v → ∃ z t, zs[i]? = some z ∧ v = .str z t := fun i v hv => strs_item hit (by rw [Array.getElem?_toList]; exact hv)
        refine set_fill ((Walks.list cold3 _ l apart items).toS) s.heap.objs.size out zs size few vals (items.size - 0) 0 _ (by omega) (Nat.zero_le _) ⟨⟨_, Heap.get?_push_size _ rfl, rfl, rfl⟩, (hl1.push _)⟩ ?hS0 ?hR
        case hS0 => exact new_setOf (Heap.get?_push_of_some _ hS)
        case hR =>
          intro s' mv hS'
          obtain ⟨h', g2, d', tk', os'⟩ := s'
          have eg : g2 = s.gens := mv.gens
          have ed : d' = s.drawn := mv.drawn
          have eo : os' = s.os := mv.os
          subst eg; subst ed; subst eo
          show wpAny _ _ _ _ _ _
          refine wpAny_pure ?_
          show wpAny _ _ (ret Value.none) _ _ _
          rw [size] at hS'
          refine wpAny_pure ⟨rfl, h', tk', rfl, hS', fun b o e => ?_⟩
          have b0 : b < s.heap.objs.size := Heap.lt_size e
          have b1 : b ≠ s.heap.objs.size := Nat.ne_of_lt b0
          have b2 : b ≠ (s.heap.push (emptySet w)).objs.size := by
            rw [Heap.size_push]; exact Nat.ne_of_lt (Nat.lt_succ_of_lt b0)
          exact mv.heap b o (by simp only [List.mem_cons, List.mem_singleton, List.not_mem_nil, or_false, not_or]; exact ⟨b1, b2⟩) (Heap.get?_push_of_some _ (Heap.get?_push_of_some _ e))
      · cases r₂ with
        | error e => exact hr₂
        | ok fl₂ =>
          cases fl₂ with
          | ret r =>
            obtain ⟨rfl, h', tk, rfl, hS', hk'⟩ := hr₂
            repeat (any_goals (first | assumption | wp_step))
            exact h _ _ hS' hk'
          | _ => exact hr₂.elim
    | _ => exact hr.elim
end
def gLenSetL : PyData → Option PyData
  | .list ds => (strsS ds).bind fun zs => if zs.length + 1 < scanBound then some (.int (unl zs zs.length)) else none
  | _ => none
section
variable {X : Cx} {Z : Par} {fa : DE}
theorem dlensetL {a : Expr} {p p2 q pos : Pos} (hc : X.calm = true) (hg : Gl X "len") (hm : X.mg "len" = none) (hg2 : Gl X "set") (hm2 : X.mg "set" = none) (ha : PE X a (lft X.K Z fa))
    (na : starEach [a] X.env = (false, eval a X.env) :: starEach [] X.env := by rfl) : PE X (.Call (.Name "len" p) [.Call (.Name "set" p2) [a] [] q] [] pos) (lft X.K Z (dUn gLenSetL fa)) := by
  refine ⟨fun pins s σ H Q I h => ?_⟩
  obtain ⟨M, sl, d, sl', rl, hf, k⟩ := h
  obtain ⟨d1, f1, g1⟩ := dUn_some hf
  refine Call_ (ld_blt I hg hm boot_len ?_)
  refine PyProof.Rows.callWith_builtin1 (PyProof.Rows.args_cons ?_ rfl) rfl rfl
  refine Call_ (ld_blt I hg2 hm2 boot_set ?_)
  refine PyProof.Rows.callWith_type1 (PyProof.Rows.args_cons (thn (ha.run pins s σ H (fun v H1 => Kq Z M H M H1 ∧ Rel X.K Z M σ H1 sl' ∧ Dt X.K (Mu Z M) H1 v d1) I ⟨M, sl, d1, sl', rl, f1, fun v H' k1 r1 t1 => ⟨k1, r1, t1⟩⟩) fun v s1 ⟨x, H1, I1, r1, k1, r2, t1⟩ => PyProof.Rows.args_nil ?_) na) na rfl
  unfold gLenSetL at g1
  split at g1
  case h_2 => cases g1
  rename_i ds
  simp only [Option.bind_eq_some_iff] at g1
  obtain ⟨zs, e1, e2⟩ := g1
  split at e2
  case isFalse => cases e2
  rename_i few
  cases e2
  obtain ⟨l, xs, rfl, hq, u1⟩ := t1.list
  obtain rfl := strsS_of e1 u1
  cases r1
  obtain ⟨its, r, pl, hz⟩ := I1.list hq
  refine call_set_textsL zs (I1.ok.hd hc) pl.isList (by simpa using strsAre_of r) few fun h' tk hS hk => ?_
  refine PyProof.Rows.args_nil ?_
  obtain ⟨o, es, ep, t, ho, hex, hd, _, _, _, hf', hn⟩ := hS
  have I2 : Inv X pins σ H1 { s1 with heap := h', toks := tk } := I1.kept fun b o e => hk b o e
  have := unl_le zs zs.length
  exact call_len_set ho hex hd hf' (by rw [hn]; unfold scanBound at few; omega) ⟨.int (unl zs zs.length), H1, I2.tok _, ⟨_, by rw [hn]⟩, k _ H1 k1 r2 (.int _)⟩
end
end Dl

/-! ### a list from its end -/
namespace Dl
open PySem PySem.Spec PyProof.Rows L2
def gRevL : PyData → Option PyData
  | .list ds => some (.list ds.reverse)
  | _ => none
section
variable {X : Cx} {K : PySem.W.Frag} {mu : Addr → Prop} {H : Hp} {Z : Par} {e : Expr} {pos : Pos} {fa : DE}
theorem drevL {k : Nat} {p1 p2 p3 : Pos} (he : PE X e (lft X.K Z fa)) : PE X (.Subscript e (.Slice none none (some (.UnaryOp .USub (.Constant (.int 1) k p1) p2)) p3) pos) (lft X.K Z (dUn gRevL fa)) := PEimp (pe_revL he) fun σ H Q h => by
  obtain ⟨M, s, d, s', rl, hf, k⟩ := h
  obtain ⟨d1, h1, h3⟩ := dUn_some hf
  unfold gRevL at h3
  split at h3
  · cases h3
    refine ⟨M, s, _, s', rl, h1, fun v H1 k1 r1 t1 => ?_⟩
    obtain ⟨a, xs, rfl, g1, u1⟩ := t1.list
    exact ⟨a, xs, rfl, g1, fun p hp => k _ _ (k1.trans (kq_grow (grow_new hp))) (r1.grow (grow_new hp)) (dt_newL r1.muT hp u1.rev)⟩
  · cases h3
end
end Dl

namespace K04
open PySem PySem.Spec PyProof.Rows L2 Dl
def topS (i : Nat) : Stmt := PySem.Challenge.pw_askround_k04_whole_values_written.main.body.getD i (.Pass ⟨0, 0, 0, 0⟩)
abbrev d_FIGURES : PyData := (.str "0123456789")
abbrev d_LETTERS : PyData := (.str "abcdefghijklmnopqrstuvwxyz")
abbrev d_LONGEST_NAME : PyData := (.int 8)
abbrev d_MOST_FIGURES : PyData := (.int 7)
abbrev d_MOST_OPTIONS : PyData := (.int 6)
abbrev d_TOP_NUMBER : PyData := (.int 1000000)
abbrev d_WORDS : PyData := (.tuple [(.str "ask"), (.str "pick"), (.str "some"), (.str "count"), (.str "if"), (.str "else"), (.str "end"), (.str "part"), (.str "leave"), (.str "each"), (.str "hard"), (.str "soft"), (.str "is"), (.str "has"), (.str "from"), (.str "to"), (.str "not"), (.str "and"), (.str "or"), (.str "any"), (.str "every")])
def nm_ : List Str := ["NoKind", "NoValue"]
def ts_ : List Str := ["NoCondition", "NoValue", "NoKind", "NoForm", "NoKey", "TooWide", "Stuck", "NoBook", "Clash", "Full", "NoNames", "NoEntry", "NoCheck", "Twice", "NoLines", "NoRound", "NoWeights", "NoTable", "NoFits", "NoTotals", "NoCounts", "NoPlaces", "NoPlace", "NoText", "NoLine", "CannotGo", "NoRecord", "NoFit"]
def q_ : Str := ("law" : Str) ++ ".<locals>." ++ "<lambda>"
structure Tx (K : PySem.W.Frag) (mg : Str → Option Value) : Prop where
  b_ValueError : mg "ValueError" = none
  b_abs : mg "abs" = none
  b_all : mg "all" = none
  b_bool : mg "bool" = none
  b_int : mg "int" = none
  b_isinstance : mg "isinstance" = none
  b_len : mg "len" = none
  b_list : mg "list" = none
  b_max : mg "max" = none
  b_min : mg "min" = none
  b_range : mg "range" = none
  b_repr : mg "repr" = none
  b_set : mg "set" = none
  b_sorted : mg "sorted" = none
  b_str : mg "str" = none
  b_tuple : mg "tuple" = none
  b_zip : mg "zip" = none
  c_FIGURES : GC K mg "FIGURES" d_FIGURES
  c_LETTERS : GC K mg "LETTERS" d_LETTERS
  c_LONGEST_NAME : GC K mg "LONGEST_NAME" d_LONGEST_NAME
  c_MOST_FIGURES : GC K mg "MOST_FIGURES" d_MOST_FIGURES
  c_MOST_OPTIONS : GC K mg "MOST_OPTIONS" d_MOST_OPTIONS
  c_TOP_NUMBER : GC K mg "TOP_NUMBER" d_TOP_NUMBER
  c_WORDS : GC K mg "WORDS" d_WORDS
section
variable {P : Program} {w : World} {K : PySem.W.Frag} {mg : Str → Option Value} {base : Heap}
/-! #### _law_pot -/
abbrev s__law_pot : Stmt := topS 50
theorem sc__law_pot : FnScope ["_law_script", "_law_k", "_law_cell"] ["_law_script", "_law_k"] (defScope s__law_pot) := ⟨rfl, rfl, rfl, by decide +kernel, rfl, by decide +kernel, by decide +kernel⟩
def b__law_pot : DF := (rSeq (sSet 2 (dC (.int 0)))
  (rSeq (sIf (dTst (dOp gLt (dVar 1) (dB gLen (aCons (dVar 0) aNil))))
  (sSet 2 (dOp gMod (dB gAbs (aCons (dOp gIx (dVar 0) (dVar 1)) aNil)) (dOp gPow (dOp gPow (dC (.int 10)) (dC (.int 60))) (dC (.int 10)))))
  sNil)
  (fLst (aCons (dOp gMul (dVar 2) (dB gIntA (aCons (dOp gGe (dVar 2) (dOp gPow (dC (.int 10)) (dC (.int 18)))) aNil))) (aCons (dOp gMod (dOp gPow (dOp gAdd (dOp gAdd (dOp gMod (dVar 2) (dC (.int 2147483629))) (dOp gMul (dC (.int 7919)) (dVar 1))) (dC (.int 1))) (dC (.int 5))) (dC (.int 2305843009213693951))) (aCons (dC (.int 0)) aNil))))))
def m__law_pot : List PyData → Option (List PyData) := fnF ["_law_script", "_law_k", "_law_cell"] 2 b__law_pot
theorem ok__law_pot (F : Std K mg "_law_pot" s__law_pot ["_law_script", "_law_k"]) (T : Tx K mg)  : Cal P w K mg base 1 "_law_pot" ["_law_script", "_law_k"] (spF K m__law_pot) := by
  refine calF F sc__law_pot (fun f cdv A outer s H E Z hr => ?_)
  unfold b__law_pot
  exact (rcons (sset (i := 2) sc__law_pot.nd rfl (by first | exact .inl rfl | exact .inr rfl) di)
  (rcons (sif (dtcmp op_ltA ok_lt (dv 1) (dcb call_len ok_len (by rfl) T.b_len boot_len (dac (dv 0) danil)) (nomark _))
  (sone (sset (i := 2) sc__law_pot.nd rfl (by first | exact .inl rfl | exact .inr rfl) (do_ op_mod ok_mod (dcb call_abs ok_abs (by rfl) T.b_abs (by decide +kernel) (dac (dix ix_seq ok_ix (dv 0) (dv 1)) danil)) (do_ op_powW ok_pow (do_ op_powW ok_pow di di) di))))
  snil)
  (rone (rret (flst (dac (do_ op_mulW ok_mul (dv 2) (dcty call_intA ok_intA (by rfl) T.b_int (by decide +kernel) (dac (dcmp op_ge ok_ge (dv 2) (do_ op_powW ok_pow di di) (nomark _)) danil))) (dac (do_ op_mod ok_mod (do_ op_powW ok_pow (do_ op_addA ok_add (do_ op_addA ok_add (do_ op_mod ok_mod (dv 2) di) (do_ op_mulW ok_mul di (dv 1))) di) di) di) (dac di danil))))))))
/-! #### _law_take -/
abbrev s__law_take : Stmt := topS 51
theorem sc__law_take : FnScope ["_law_pot_here", "_law_many", "_law_found", "_law_one", "_law_other"] ["_law_pot_here", "_law_many"] (defScope s__law_take) := ⟨rfl, rfl, rfl, by decide +kernel, rfl, by decide +kernel, by decide +kernel⟩
def b__law_take : DS := (sSeq (sIf (dTst (dOp gGt (dIxC 0 (dC (.int 0))) (dC (.int 0))))
  (sSeq (sSet 2 (dOp gMod (dIxC 0 (dC (.int 0))) (dVar 1)))
  (sSeq (sSetIx 0 (dOp gDiv (dIxC 0 (dC (.int 0))) (dVar 1)) (dC (.int 0)))
  (sRet (dVar 2))))
  sNil)
  (sSeq (sSetIx 0 (dOp gAdd (dIxC 0 (dC (.int 2))) (dC (.int 1))) (dC (.int 2)))
  (sSeq (sSet 3 (dOp gMod (dOp gPow (dOp gAdd (dIxC 0 (dC (.int 1))) (dOp gMul (dC (.int 104729)) (dIxC 0 (dC (.int 2))))) (dC (.int 3))) (dC (.int 2305843009213693921))))
  (sSeq (sSet 4 (dOp gMod (dOp gPow (dOp gAdd (dOp gAdd (dVar 3) (dOp gMod (dIxC 0 (dC (.int 1))) (dC (.int 65537)))) (dOp gMul (dC (.int 31)) (dIxC 0 (dC (.int 2))))) (dC (.int 5))) (dC (.int 2305843009213693907))))
  (sRet (dOp gMod (dOp gDiv (dVar 4) (dC (.int 1024))) (dVar 1)))))))
def m__law_take : List PyData → List PyData → Option (PyData × List PyData) := fnM ["_law_pot_here", "_law_many", "_law_found", "_law_one", "_law_other"] 2 b__law_take
theorem ok__law_take (F : Std K mg "_law_take" s__law_take ["_law_pot_here", "_law_many"]) (T : Tx K mg)  : Cal P w K mg base 1 "_law_take" ["_law_pot_here", "_law_many"] (spM K m__law_take) := by
  refine calM F sc__law_take (fun f cdv A outer s H E Z hr => ?_)
  unfold b__law_take
  exact (scons (sif (dtcmp op_gt ok_gt (dixC 0 (pv 0) di) di (nomark _))
  (scons (sset (i := 2) sc__law_take.nd rfl (by first | exact .inl rfl | exact .inr rfl) (do_ op_mod ok_mod (dixC 0 (pv 0) di) (dv 1)))
  (scons (ssetIx 0 (do_ op_fdivW ok_div (dixC 0 (pv 0) di) (dv 1)) (pv 0) di)
  (sone (sret (dv 2)))))
  snil)
  (scons (ssetIx 0 (do_ op_addA ok_add (dixC 0 (pv 0) di) di) (pv 0) di)
  (scons (sset (i := 3) sc__law_take.nd rfl (by first | exact .inl rfl | exact .inr rfl) (do_ op_mod ok_mod (do_ op_powW ok_pow (do_ op_addA ok_add (dixC 0 (pv 0) di) (do_ op_mulW ok_mul di (dixC 0 (pv 0) di))) di) di))
  (scons (sset (i := 4) sc__law_take.nd rfl (by first | exact .inl rfl | exact .inr rfl) (do_ op_mod ok_mod (do_ op_powW ok_pow (do_ op_addA ok_add (do_ op_addA ok_add (dv 3) (do_ op_mod ok_mod (dixC 0 (pv 0) di) di)) (do_ op_mulW ok_mul di (dixC 0 (pv 0) di))) di) di))
  (sone (sret (do_ op_mod ok_mod (do_ op_fdivW ok_div (dv 4) di) (dv 1))))))))
/-! #### _law_number -/
abbrev s__law_number : Stmt := topS 56
theorem sc__law_number : FnScope ["_law_pot_here"] ["_law_pot_here"] (defScope s__law_number) := ⟨rfl, rfl, rfl, by decide +kernel, rfl, by decide +kernel, by decide +kernel⟩
def b__law_number : DS := (sRet (dOp gIx (dL (fLst (aCons (dC (.int 0)) (aCons (dC (.int 1)) (aCons (dOp gPow (dC (.int 10)) (dC (.int 6))) (aCons (dCallM m__law_take 0 (aCons (dC (.int 10)) aNil)) (aCons (dCallM m__law_take 0 (aCons (dOp gAdd (dOp gPow (dC (.int 10)) (dC (.int 6))) (dC (.int 1))) aNil)) aNil))))))) (dCallM m__law_take 0 (aCons (dC (.int 5)) aNil))))
def m__law_number : List PyData → List PyData → Option (PyData × List PyData) := fnM ["_law_pot_here"] 1 b__law_number
theorem ok__law_number (F : Std K mg "_law_number" s__law_number ["_law_pot_here"]) (T : Tx K mg) (c__law_take : Cal P w K mg base 1 "_law_take" ["_law_pot_here", "_law_many"] (spM K m__law_take)) : Cal P w K mg base 2 "_law_number" ["_law_pot_here"] (spM K m__law_number) := by
  refine calM F sc__law_number (fun f cdv A outer s H E Z hr => ?_)
  unfold b__law_number
  exact (sone (sret (dix ix_seq ok_ix (dfr (flst (dac di (dac di (dac (do_ op_powW ok_pow di di) (dac (dclM 0 c__law_take hr (by decide) (by rfl) (pv 0) (dac di danil)) (dac (dclM 0 c__law_take hr (by decide) (by rfl) (pv 0) (dac (do_ op_addA ok_add (do_ op_powW ok_pow di di) di) danil)) danil))))))) (dclM 0 c__law_take hr (by decide) (by rfl) (pv 0) (dac di danil)))))
/-! #### _law_words -/
abbrev s__law_words : Stmt := topS 52
theorem sc__law_words : FnScope [] [] (defScope s__law_words) := ⟨rfl, rfl, rfl, by decide +kernel, rfl, by decide +kernel, by decide +kernel⟩
def b__law_words : DS := (sRet (dL (fLst (aCons (dC (.str "ask")) (aCons (dC (.str "pick")) (aCons (dC (.str "some")) (aCons (dC (.str "count")) (aCons (dC (.str "if")) (aCons (dC (.str "else")) (aCons (dC (.str "end")) (aCons (dC (.str "part")) (aCons (dC (.str "leave")) (aCons (dC (.str "each")) (aCons (dC (.str "hard")) (aCons (dC (.str "soft")) (aCons (dC (.str "is")) (aCons (dC (.str "has")) (aCons (dC (.str "from")) (aCons (dC (.str "to")) (aCons (dC (.str "not")) (aCons (dC (.str "and")) (aCons (dC (.str "or")) (aCons (dC (.str "any")) (aCons (dC (.str "every")) aNil))))))))))))))))))))))))
def m__law_words : List PyData → Option PyData := fnP [] 0 b__law_words
theorem ok__law_words (F : Std K mg "_law_words" s__law_words []) (T : Tx K mg)  : Cal P w K mg base 1 "_law_words" [] (spP K m__law_words) := by
  refine calP F sc__law_words (fun f cdv A outer s H E Z hr => ?_)
  unfold b__law_words
  exact (sone (sret (dfr (flst (dac ds (dac ds (dac ds (dac ds (dac ds (dac ds (dac ds (dac ds (dac ds (dac ds (dac ds (dac ds (dac ds (dac ds (dac ds (dac ds (dac ds (dac ds (dac ds (dac ds (dac ds danil)))))))))))))))))))))))))
/-! #### _law_name -/
abbrev s__law_name : Stmt := topS 53
theorem sc__law_name : FnScope ["_law_pot_here", "_law_letters", "_law_name_here", "_law_turn"] ["_law_pot_here"] (defScope s__law_name) := ⟨rfl, rfl, rfl, by decide +kernel, rfl, by decide +kernel, by decide +kernel⟩
def b__law_name : DS := (sSeq (sIf (dTst (dOp gEq (dCallM m__law_take 0 (aCons (dC (.int 4)) aNil)) (dC (.int 0))))
  (sRet (dOp gIx (dL (fLst (aCons (dC (.str "isa")) (aCons (dC (.str "no")) (aCons (dC (.str "a")) (aCons (dC (.str "zzzzzzzz")) (aCons (dC (.str "ends")) (aCons (dC (.str "ifs")) (aCons (dC (.str "hase")) (aCons (dC (.str "fro")) (aCons (dC (.str "t")) (aCons (dC (.str "picks")) (aCons (dC (.str "an")) (aCons (dC (.str "counts")) aNil)))))))))))))) (dCallM m__law_take 0 (aCons (dC (.int 12)) aNil))))
  sNil)
  (sSeq (sSet 1 (dC (.str "abcdefghijklmnopqrstuvwxyz")))
  (sSeq (sSet 2 (dC (.str "")))
  (sSeq (sFor (itR1 (dOp gAdd (dC (.int 1)) (dCallM m__law_take 0 (aCons (dC (.int 8)) aNil)))) (tgN 3)
  (sSet 2 (dOp gAdd (dVar 2) (dOp gIx (dVar 1) (dCallM m__law_take 0 (aCons (dC (.int 26)) aNil))))))
  (sSeq (sIf (dTst (dOp (gIn false) (dVar 2) (dCall m__law_words aNil)))
  (sSet 2 (dOp gAdd (dVar 2) (dC (.str "q"))))
  sNil)
  (sRet (dVar 2)))))))
def m__law_name : List PyData → List PyData → Option (PyData × List PyData) := fnM ["_law_pot_here", "_law_letters", "_law_name_here", "_law_turn"] 1 b__law_name
theorem ok__law_name (F : Std K mg "_law_name" s__law_name ["_law_pot_here"]) (T : Tx K mg) (c__law_take : Cal P w K mg base 1 "_law_take" ["_law_pot_here", "_law_many"] (spM K m__law_take)) (c__law_words : Cal P w K mg base 1 "_law_words" [] (spP K m__law_words)) : Cal P w K mg base 2 "_law_name" ["_law_pot_here"] (spM K m__law_name) := by
  refine calM F sc__law_name (fun f cdv A outer s H E Z hr => ?_)
  unfold b__law_name
  exact (scons (sif (dtcmp (op_eqA hr.units) ok_eq (dclM 0 c__law_take hr (by decide) (by rfl) (pv 0) (dac di danil)) di (nomark _))
  (sone (sret (dix ix_seq ok_ix (dfr (flst (dac ds (dac ds (dac ds (dac ds (dac ds (dac ds (dac ds (dac ds (dac ds (dac ds (dac ds (dac ds danil)))))))))))))) (dclM 0 c__law_take hr (by decide) (by rfl) (pv 0) (dac di danil)))))
  snil)
  (scons (sset (i := 1) sc__law_name.nd rfl (by first | exact .inl rfl | exact .inr rfl) ds)
  (scons (sset (i := 2) sc__law_name.nd rfl (by first | exact .inl rfl | exact .inr rfl) ds)
  (scons (sfor PassesOwn.never rfl (pir1 (by rfl) T.b_range (do_ op_addA ok_add di (dclM 0 c__law_take hr (by decide) (by rfl) (pv 0) (dac di danil)))) (pg_name (i := 3) sc__law_name.nd rfl (by first | exact .inl rfl | exact .inr rfl)) tgn
  (sone (sset (i := 2) sc__law_name.nd rfl (by first | exact .inl rfl | exact .inr rfl) (do_ op_addA ok_add (dv 2) (dix ix_seq ok_ix (dv 1) (dclM 0 c__law_take hr (by decide) (by rfl) (pv 0) (dac di danil)))))))
  (scons (sif (dtcmp (op_inA (hu_of hr)) ok_in (dv 2) (dcl0 c__law_words hr (by decide) (by rfl)) (by first | rfl | with_unfolding_all rfl))
  (sone (sset (i := 2) sc__law_name.nd rfl (by first | exact .inl rfl | exact .inr rfl) (do_ op_addA ok_add (dv 2) ds)))
  snil)
  (sone (sret (dv 2))))))))
/-! #### _law_options -/
abbrev s__law_options : Stmt := topS 57
theorem sc__law_options : FnScope ["_law_pot_here", "_law_found", "_law_turn", "_law_name_here"] ["_law_pot_here"] (defScope s__law_options) := ⟨rfl, rfl, rfl, by decide +kernel, rfl, by decide +kernel, by decide +kernel⟩
def b__law_options : DS := (sSeq (sOwn 1 (fLst aNil))
  (sSeq (sFor (itR1 (dOp gAdd (dC (.int 1)) (dCallM m__law_take 0 (aCons (dC (.int 6)) aNil)))) (tgN 2)
  (sSeq (sSet 3 (dCallM m__law_name 0 aNil))
  (sIf (dTst (dInC true (dVar 3) 1))
  (sApp 1 (dVar 3))
  sNil)))
  (sSeq (sFrz 1) (sRet (dB gTuple (aCons (dVar 1) aNil))))))
def m__law_options : List PyData → List PyData → Option (PyData × List PyData) := fnM ["_law_pot_here", "_law_found", "_law_turn", "_law_name_here"] 1 b__law_options
theorem ok__law_options (F : Std K mg "_law_options" s__law_options ["_law_pot_here"]) (T : Tx K mg) (c__law_take : Cal P w K mg base 1 "_law_take" ["_law_pot_here", "_law_many"] (spM K m__law_take)) (c__law_name : Cal P w K mg base 2 "_law_name" ["_law_pot_here"] (spM K m__law_name)) : Cal P w K mg base 3 "_law_options" ["_law_pot_here"] (spM K m__law_options) := by
  refine calM F sc__law_options (fun f cdv A outer s H E Z hr => ?_)
  unfold b__law_options
  exact (scons (sown (i := 1) sc__law_options.nd rfl (by first | exact .inl rfl | exact .inr rfl) (flst danil))
  (scons (sfor PassesOwn.never rfl (pir1 (by rfl) T.b_range (do_ op_addA ok_add di (dclM 0 c__law_take hr (by decide) (by rfl) (pv 0) (dac di danil)))) (pg_name (i := 2) sc__law_options.nd rfl (by first | exact .inl rfl | exact .inr rfl)) tgn
  (scons (sset (i := 3) sc__law_options.nd rfl (by first | exact .inl rfl | exact .inr rfl) (dclM 0 c__law_name hr (by decide) (by rfl) (pv 0) danil))
  (sone (sif (dtinC true op_notIn_seq 1 (dv 3) (pv 1) (by first | rfl | with_unfolding_all rfl))
  (sone (sapp 1 (pv 1) (dv 3)))
  snil))))
  (sfrz (i := 1) (sone (sret (dcty call_tuple_ofF ok_tuple (by rfl) T.b_tuple (by decide +kernel) (dac (dv 1) danil)))))))
/-! #### _law_kind -/
abbrev s__law_kind : Stmt := topS 58
theorem sc__law_kind : FnScope ["_law_pot_here", "_law_way", "_law_low", "_law_high"] ["_law_pot_here"] (defScope s__law_kind) := ⟨rfl, rfl, rfl, by decide +kernel, rfl, by decide +kernel, by decide +kernel⟩
def b__law_kind : DS := (sSeq (sSet 1 (dCallM m__law_take 0 (aCons (dC (.int 3)) aNil)))
  (sSeq (sIf (dTst (dOp gLt (dVar 1) (dC (.int 2))))
  (sRet (dTup (aCons (dOp gIx (dL (fLst (aCons (dC (.str "pick")) (aCons (dC (.str "some")) aNil)))) (dVar 1)) (aCons (dCallM m__law_options 0 aNil) aNil))))
  sNil)
  (sSeq (sPar 2 3 (dCallM m__law_number 0 aNil) (dCallM m__law_number 0 aNil))
  (sRet (dTup (aCons (dC (.str "count")) (aCons (dB gMin2 (aCons (dVar 2) (aCons (dVar 3) aNil))) (aCons (dB gMax2 (aCons (dVar 2) (aCons (dVar 3) aNil))) aNil))))))))
def m__law_kind : List PyData → List PyData → Option (PyData × List PyData) := fnM ["_law_pot_here", "_law_way", "_law_low", "_law_high"] 1 b__law_kind
theorem ok__law_kind (F : Std K mg "_law_kind" s__law_kind ["_law_pot_here"]) (T : Tx K mg) (c__law_take : Cal P w K mg base 1 "_law_take" ["_law_pot_here", "_law_many"] (spM K m__law_take)) (c__law_options : Cal P w K mg base 3 "_law_options" ["_law_pot_here"] (spM K m__law_options)) (c__law_number : Cal P w K mg base 2 "_law_number" ["_law_pot_here"] (spM K m__law_number)) : Cal P w K mg base 4 "_law_kind" ["_law_pot_here"] (spM K m__law_kind) := by
  refine calM F sc__law_kind (fun f cdv A outer s H E Z hr => ?_)
  unfold b__law_kind
  exact (scons (sset (i := 1) sc__law_kind.nd rfl (by first | exact .inl rfl | exact .inr rfl) (dclM 0 c__law_take hr (by decide) (by rfl) (pv 0) (dac di danil)))
  (scons (sif (dtcmp op_ltA ok_lt (dv 1) di (nomark _))
  (sone (sret (dtup (dac (dix ix_seq ok_ix (dfr (flst (dac ds (dac ds danil)))) (dv 1)) (dac (dclM 0 c__law_options hr (by decide) (by rfl) (pv 0) danil) danil)))))
  snil)
  (scons (spar (i := 2) (j := 3) rfl sc__law_kind.nd rfl rfl (by decide) rfl rfl (dclM 0 c__law_number hr (by decide) (by rfl) (pv 0) danil) (dclM 0 c__law_number hr (by decide) (by rfl) (pv 0) danil) (by rfl))
  (sone (sret (dtup (dac ds (dac (dcb (call_min2 rfl) ok_min2 (by rfl) T.b_min (by decide +kernel) (dac (dv 2) (dac (dv 3) danil))) (dac (dcb (call_max2 rfl) ok_max2 (by rfl) T.b_max (by decide +kernel) (dac (dv 2) (dac (dv 3) danil))) danil)))))))))
/-! #### _law_all_values -/
abbrev s__law_all_values : Stmt := topS 67
theorem sc__law_all_values : FnScope ["_law_pot_here", "_law_kind_here", "_law_found", "_law_option", "_law_some", "_law_near", "_law_number_here"] ["_law_pot_here", "_law_kind_here"] (defScope s__law_all_values) := ⟨rfl, rfl, rfl, by decide +kernel, rfl, by decide +kernel, by decide +kernel⟩
def b__law_all_values : DS := (sSeq (sIf (dTst (dOp gEq (dOp gIx (dVar 1) (dC (.int 0))) (dC (.str "pick"))))
  (sRet (dB gList (aCons (dOp gIx (dVar 1) (dC (.int 1))) aNil)))
  sNil)
  (sSeq (sIf (dTst (dOp gEq (dOp gIx (dVar 1) (dC (.int 0))) (dC (.str "some"))))
  (sSeq (sSet 2 (dL (fLst (aCons (dTup aNil) aNil))))
  (sSeq (sFor (itA (dOp gIx (dVar 1) (dC (.int 1)))) (tgN 3)
  (sSet 2 (dOp gAdd (dVar 2) (dL (fLc (itA (dVar 2)) 4 tYesD (dOp gAdd (dVar 4) (dTup (aCons (dVar 3) aNil))))))))
  (sRet (dVar 2))))
  sNil)
  (sSeq (sSet 5 (dL (fLst (aCons (dOp gIx (dVar 1) (dC (.int 1))) (aCons (dOp gAdd (dOp gIx (dVar 1) (dC (.int 1))) (dC (.int 1))) (aCons (dOp gSub (dOp gIx (dVar 1) (dC (.int 2))) (dC (.int 1))) (aCons (dOp gIx (dVar 1) (dC (.int 2))) (aCons (dOp gAdd (dOp gIx (dVar 1) (dC (.int 1))) (dCallM m__law_take 0 (aCons (dOp gAdd (dOp gSub (dOp gIx (dVar 1) (dC (.int 2))) (dOp gIx (dVar 1) (dC (.int 1)))) (dC (.int 1))) aNil))) aNil))))))))
  (sRet (dUn gSortSet (dL (fLc (itA (dVar 5)) 6 (dTst (dChain gLe gLe (dOp gIx (dVar 1) (dC (.int 1))) (dVar 6) (dOp gIx (dVar 1) (dC (.int 2))))) (dVar 6))))))))
def m__law_all_values : List PyData → List PyData → Option (PyData × List PyData) := fnM ["_law_pot_here", "_law_kind_here", "_law_found", "_law_option", "_law_some", "_law_near", "_law_number_here"] 2 b__law_all_values
theorem ok__law_all_values (F : Std K mg "_law_all_values" s__law_all_values ["_law_pot_here", "_law_kind_here"]) (T : Tx K mg) (c__law_take : Cal P w K mg base 1 "_law_take" ["_law_pot_here", "_law_many"] (spM K m__law_take)) : Cal P w K mg base 2 "_law_all_values" ["_law_pot_here", "_law_kind_here"] (spM K m__law_all_values) := by
  refine calM F sc__law_all_values (fun f cdv A outer s H E Z hr => ?_)
  unfold b__law_all_values
  exact (scons (sif (dtcmp (op_eqA hr.units) ok_eq (dix ix_seq ok_ix (dv 1) di) ds (nomark _))
  (sone (sret (dcty call_list_of ok_list (by rfl) T.b_list (by decide +kernel) (dac (dix ix_seq ok_ix (dv 1) di) danil))))
  snil)
  (scons (sif (dtcmp (op_eqA hr.units) ok_eq (dix ix_seq ok_ix (dv 1) di) ds (nomark _))
  (scons (sset (i := 2) sc__law_all_values.nd rfl (by first | exact .inl rfl | exact .inr rfl) (dfr (flst (dac (dtup danil) danil))))
  (scons (sfor PassesOwn.never rfl (pia (dix ix_seq ok_ix (dv 1) di)) (pg_name (i := 3) sc__law_all_values.nd rfl (by first | exact .inl rfl | exact .inr rfl)) tgn
  (sone (sset (i := 2) sc__law_all_values.nd rfl (by first | exact .inl rfl | exact .inr rfl) (do_ op_addA ok_add (dv 2) (dfr (flc rfl sc__law_all_values.nd (pia (dv 2)) (blkOk_by (own := [("_law_some", 4)]) (N := ["_law_pot_here", "_law_kind_here", "_law_found", "_law_option", "_law_some", "_law_near", "_law_number_here"]) (sc := defScope s__law_all_values) (by decide +kernel)) (fun _ _ _ _ _ => pg_name (i := 4) sc__law_all_values.nd rfl (by first | exact .inl rfl | exact .inr rfl)) (fun _ _ _ _ _ _ => tynil) (fun _ _ _ _ _ _ => (do_ op_addA ok_add (dv 4) (dtup (dac (dv 3) danil))))))))))
  (sone (sret (dv 2)))))
  snil)
  (scons (sset (i := 5) sc__law_all_values.nd rfl (by first | exact .inl rfl | exact .inr rfl) (dfr (flst (dac (dix ix_seq ok_ix (dv 1) di) (dac (do_ op_addA ok_add (dix ix_seq ok_ix (dv 1) di) di) (dac (do_ op_sub ok_sub (dix ix_seq ok_ix (dv 1) di) di) (dac (dix ix_seq ok_ix (dv 1) di) (dac (do_ op_addA ok_add (dix ix_seq ok_ix (dv 1) di) (dclM 0 c__law_take hr (by decide) (by rfl) (pv 0) (dac (do_ op_addA ok_add (do_ op_sub ok_sub (dix ix_seq ok_ix (dv 1) di) (dix ix_seq ok_ix (dv 1) di)) di) danil))) danil))))))))
  (sone (sret (dsortset rfl (by rfl) T.b_sorted (by rfl) T.b_set (dfr (flc rfl sc__law_all_values.nd (pia (dv 5)) (blkOk_by (own := [("_law_number_here", 6)]) (N := ["_law_pot_here", "_law_kind_here", "_law_found", "_law_option", "_law_some", "_law_near", "_law_number_here"]) (sc := defScope s__law_all_values) (by decide +kernel)) (fun _ _ _ _ _ => pg_name (i := 6) sc__law_all_values.nd rfl (by first | exact .inl rfl | exact .inr rfl)) (fun _ _ _ _ _ _ => (pts_one (dtchain op_leA ok_le op_leA ok_le (dix ix_seq ok_ix (dv 1) di) (dv 6) (dix ix_seq ok_ix (dv 1) di)))) (fun _ _ _ _ _ _ => (dv 6))))))))))
/-! #### _law_written -/
abbrev s__law_written : Stmt := topS 68
theorem sc__law_written : FnScope ["_law_value_here"] ["_law_value_here"] (defScope s__law_written) := ⟨rfl, rfl, rfl, by decide +kernel, rfl, by decide +kernel, by decide +kernel⟩
def b__law_written : DS := (sSeq (sIf (dTst (dUn (gIsi "tuple") (dVar 0)))
  (sRet (dIf (dTst (dOp gNe (dVar 0) (dTup aNil))) (dOp gJoin (dC (.str "+")) (dVar 0)) (dC (.str "-"))))
  sNil)
  (sRet (dB gStr1 (aCons (dVar 0) aNil))))
def m__law_written : List PyData → Option PyData := fnP ["_law_value_here"] 1 b__law_written
theorem ok__law_written (F : Std K mg "_law_written" s__law_written ["_law_value_here"]) (T : Tx K mg)  : Cal P w K mg base 1 "_law_written" ["_law_value_here"] (spP K m__law_written) := by
  refine calP F sc__law_written (fun f cdv A outer s H E Z hr => ?_)
  unfold b__law_written
  exact (scons (sif (dt (disi isi_tuple (by rfl) T.b_isinstance (by decide +kernel) (by rfl) T.b_tuple (by decide +kernel) (dv 0)))
  (sone (sret (dif_ (dtcmp (op_neA hr.units) ok_ne (dv 0) (dtup danil) (nomark _)) (djoin ds (dv 0)) ds)))
  snil)
  (sone (sret (dcty call_str1 ok_str1 (by rfl) T.b_str (by decide +kernel) (dac (dv 0) danil)))))
/-! #### _law_figures -/
abbrev s__law_figures : Stmt := topS 63
theorem sc__law_figures : FnScope ["_law_word_here", "_law_sign"] ["_law_word_here"] (defScope s__law_figures) := ⟨rfl, rfl, rfl, by decide +kernel, rfl, by decide +kernel, by decide +kernel⟩
def b__law_figures : DS := (sSeq (sIf (dOrT (dNotT (dTst (dChain gLe gLe (dC (.int 1)) (dB gLen (aCons (dVar 0) aNil)) (dC (.int 7))))) (dTst (dOp gNe (dL (fLc (itA (dVar 0)) 1 (dNotT (dTst (dChain gLe gLe (dC (.str "0")) (dVar 1) (dC (.str "9"))))) (dVar 1))) (dL (fLst aNil)))))
  (sRet (dC .none))
  sNil)
  (sSeq (sIf (dOrT (dAndT (dTst (dOp gEq (dOp gIx (dVar 0) (dC (.int 0))) (dC (.str "0")))) (dTst (dOp gNe (dVar 0) (dC (.str "0"))))) (dTst (dOp gGt (dB gIntA (aCons (dVar 0) aNil)) (dOp gPow (dC (.int 10)) (dC (.int 6))))))
  (sRet (dC .none))
  sNil)
  (sRet (dB gIntA (aCons (dVar 0) aNil)))))
def m__law_figures : List PyData → Option PyData := fnP ["_law_word_here", "_law_sign"] 1 b__law_figures
theorem ok__law_figures (F : Std K mg "_law_figures" s__law_figures ["_law_word_here"]) (T : Tx K mg)  : Cal P w K mg base 1 "_law_figures" ["_law_word_here"] (spP K m__law_figures) := by
  refine calP F sc__law_figures (fun f cdv A outer s H E Z hr => ?_)
  unfold b__law_figures
  exact (scons (sif (PW.pt (dtor (dtnot (dtchain op_leA ok_le op_leA ok_le di (dcb call_len ok_len (by rfl) T.b_len boot_len (dac (dv 0) danil)) di)) (pw_or1 (dtcmp (op_neA hr.units) ok_ne (dfr (flc rfl sc__law_figures.nd (pia (dv 0)) (blkOk_by (own := [("_law_sign", 1)]) (N := ["_law_word_here", "_law_sign"]) (sc := defScope s__law_figures) (by decide +kernel)) (fun _ _ _ _ _ => pg_name (i := 1) sc__law_figures.nd rfl (by first | exact .inl rfl | exact .inr rfl)) (fun _ _ _ _ _ _ => (pts_one (dtnot (dtchain op_leA ok_le op_leA ok_le ds (dv 1) ds)))) (fun _ _ _ _ _ _ => (dv 1)))) (dfr (flst danil)) (nomark _)))))
  (sone (sret dn))
  snil)
  (scons (sif (PW.pt (dtor (PW.pt (dtand (dtcmp (op_eqA hr.units) ok_eq (dix ix_seq ok_ix (dv 0) di) ds (nomark _)) (pw_and1 (dtcmp (op_neA hr.units) ok_ne (dv 0) ds (nomark _))))) (pw_or1 (dtcmp op_gt ok_gt (dcty call_intA ok_intA (by rfl) T.b_int (by decide +kernel) (dac (dv 0) danil)) (do_ op_powW ok_pow di di) (nomark _)))))
  (sone (sret dn))
  snil)
  (sone (sret (dcty call_intA ok_intA (by rfl) T.b_int (by decide +kernel) (dac (dv 0) danil))))))
/-! #### _law_is_within -/
abbrev s__law_is_within : Stmt := topS 55
theorem sc__law_is_within : FnScope ["_law_thing", "_law_low", "_law_high"] ["_law_thing", "_law_low", "_law_high"] (defScope s__law_is_within) := ⟨rfl, rfl, rfl, by decide +kernel, rfl, by decide +kernel, by decide +kernel⟩
def b__law_is_within : DS := (sRet (dAnd (dUn (gIsi "int") (dVar 0)) (dAnd (dNot (dUn (gIsi "bool") (dVar 0))) (dChain gLe gLe (dVar 1) (dVar 0) (dVar 2)))))
def m__law_is_within : List PyData → Option PyData := fnP ["_law_thing", "_law_low", "_law_high"] 3 b__law_is_within
theorem ok__law_is_within (F : Std K mg "_law_is_within" s__law_is_within ["_law_thing", "_law_low", "_law_high"]) (T : Tx K mg)  : Cal P w K mg base 1 "_law_is_within" ["_law_thing", "_law_low", "_law_high"] (spP K m__law_is_within) := by
  refine calP F sc__law_is_within (fun f cdv A outer s H E Z hr => ?_)
  unfold b__law_is_within
  exact (sone (sret (dand (disi isi_int (by rfl) T.b_isinstance (by decide +kernel) (by rfl) T.b_int (by decide +kernel) (dv 0)) (dand (dnot (disi isi_bool (by rfl) T.b_isinstance (by decide +kernel) (by rfl) T.b_bool (by decide +kernel) (dv 0))) (pe_one (dchain op_leA ok_le op_leA ok_le (dv 1) (dv 0) (dv 2)))))))
/-! #### _law_is_value -/
abbrev s__law_is_value : Stmt := topS 65
theorem sc__law_is_value : FnScope ["_law_kind_here", "_law_thing", "_law_option", "_law_places"] ["_law_kind_here", "_law_thing"] (defScope s__law_is_value) := ⟨rfl, rfl, rfl, by decide +kernel, rfl, by decide +kernel, by decide +kernel⟩
def b__law_is_value : DS := (sSeq (sIf (dTst (dOp gEq (dOp gIx (dVar 0) (dC (.int 0))) (dC (.str "pick"))))
  (sRet (dAnd (dUn (gIsi "str") (dVar 1)) (dOp (gIn false) (dVar 1) (dOp gIx (dVar 0) (dC (.int 1))))))
  sNil)
  (sSeq (sIf (dTst (dOp gEq (dOp gIx (dVar 0) (dC (.int 0))) (dC (.str "count"))))
  (sRet (dCall m__law_is_within (aCons (dVar 1) (aCons (dOp gIx (dVar 0) (dC (.int 1))) (aCons (dOp gIx (dVar 0) (dC (.int 2))) aNil)))))
  sNil)
  (sSeq (sIf (dOrT (dNotT (dTst (dUn (gIsi "tuple") (dVar 1)))) (dTst (dOp (gIn false) (dC (.bool false)) (dL (fLc (itA (dVar 1)) 2 tYesD (dUn (gIsi "str") (dVar 2)))))))
  (sRet (dC (.bool false)))
  sNil)
  (sSeq (sSet 3 (dL (fLc (itA (dVar 1)) 2 (dTst (dOp (gIn false) (dVar 2) (dOp gIx (dVar 0) (dC (.int 1))))) (dOp gTIndex (dOp gIx (dVar 0) (dC (.int 1))) (dVar 2)))))
  (sRet (dAnd (dOp gEq (dB gLen (aCons (dVar 3) aNil)) (dB gLen (aCons (dVar 1) aNil))) (dOp gEq (dVar 3) (dUn gSortSet (dVar 3)))))))))
def m__law_is_value : List PyData → Option PyData := fnP ["_law_kind_here", "_law_thing", "_law_option", "_law_places"] 2 b__law_is_value
theorem ok__law_is_value (F : Std K mg "_law_is_value" s__law_is_value ["_law_kind_here", "_law_thing"]) (T : Tx K mg) (c__law_is_within : Cal P w K mg base 1 "_law_is_within" ["_law_thing", "_law_low", "_law_high"] (spP K m__law_is_within)) : Cal P w K mg base 2 "_law_is_value" ["_law_kind_here", "_law_thing"] (spP K m__law_is_value) := by
  refine calP F sc__law_is_value (fun f cdv A outer s H E Z hr => ?_)
  unfold b__law_is_value
  exact (scons (sif (dtcmp (op_eqA hr.units) ok_eq (dix ix_seq ok_ix (dv 0) di) ds (nomark _))
  (sone (sret (dand (disi isi_str (by rfl) T.b_isinstance (by decide +kernel) (by rfl) T.b_str (by decide +kernel) (dv 1)) (pe_one (dcmp (op_inA (hu_of hr)) ok_in (dv 1) (dix ix_seq ok_ix (dv 0) di) (by first | rfl | with_unfolding_all rfl))))))
  snil)
  (scons (sif (dtcmp (op_eqA hr.units) ok_eq (dix ix_seq ok_ix (dv 0) di) ds (nomark _))
  (sone (sret (dcl c__law_is_within hr (by decide) (by rfl) (dac (dv 1) (dac (dix ix_seq ok_ix (dv 0) di) (dac (dix ix_seq ok_ix (dv 0) di) danil))))))
  snil)
  (scons (sif (PW.pt (dtor (dtnot (dt (disi isi_tuple (by rfl) T.b_isinstance (by decide +kernel) (by rfl) T.b_tuple (by decide +kernel) (dv 1)))) (pw_or1 (dtcmp (op_inA (hu_of hr)) ok_in db (dfr (flc rfl sc__law_is_value.nd (pia (dv 1)) (blkOk_by (own := [("_law_option", 2)]) (N := ["_law_kind_here", "_law_thing", "_law_option", "_law_places"]) (sc := defScope s__law_is_value) (by decide +kernel)) (fun _ _ _ _ _ => pg_name (i := 2) sc__law_is_value.nd rfl (by first | exact .inl rfl | exact .inr rfl)) (fun _ _ _ _ _ _ => tynil) (fun _ _ _ _ _ _ => (disi isi_str (by rfl) T.b_isinstance (by decide +kernel) (by rfl) T.b_str (by decide +kernel) (dv 2))))) (by first | rfl | with_unfolding_all rfl)))))
  (sone (sret db))
  snil)
  (scons (ssetLc (i := 3) rfl sc__law_is_value.nd rfl rfl (sw_true rfl rfl rfl (by decide +kernel)) (pia (dv 1)) (blkOk_by (own := [("_law_option", 2)]) (N := ["_law_kind_here", "_law_thing", "_law_option", "_law_places"]) (sc := defScope s__law_is_value) (by decide +kernel)) (fun _ _ _ _ _ => pg_name (i := 2) sc__law_is_value.nd rfl (by first | exact .inl rfl | exact .inr rfl)) (fun _ _ _ _ _ _ => (pts_one (dtcmp (op_inA (hu_of hr)) ok_in (dv 2) (dix ix_seq ok_ix (dv 0) di) (by first | rfl | with_unfolding_all rfl)))) (fun _ _ _ _ _ _ => (dtindex (dix ix_seq ok_ix (dv 0) di) (dv 2))))
  (sone (sret (dand (dcmp (op_eqA hr.units) ok_eq (dcb call_len ok_len (by rfl) T.b_len boot_len (dac (dv 3) danil)) (dcb call_len ok_len (by rfl) T.b_len boot_len (dac (dv 1) danil)) (nomark _)) (pe_one (dcmp (op_eqA hr.units) ok_eq (dv 3) (dsortset rfl (by rfl) T.b_sorted (by rfl) T.b_set (dv 3)) (nomark _))))))))))
/-! #### _law_due -/
abbrev s__law_due : Stmt := topS 69
theorem sc__law_due : FnScope ["_law_kind_here", "_law_text", "_law_found"] ["_law_kind_here", "_law_text"] (defScope s__law_due) := ⟨rfl, rfl, rfl, by decide +kernel, rfl, by decide +kernel, by decide +kernel⟩
def b__law_due : DS := (sSeq (sSet 2 (dVar 1))
  (sSeq (sIf (dTst (dOp gEq (dOp gIx (dVar 0) (dC (.int 0))) (dC (.str "some"))))
  (sSet 2 (dIf (dTst (dOp gNe (dVar 1) (dC (.str "-")))) (dB gTuple (aCons (dL (fSplit (dVar 1) (dC (.str "+")))) aNil)) (dTup aNil)))
  sNil)
  (sSeq (sIf (dTst (dOp gEq (dOp gIx (dVar 0) (dC (.int 0))) (dC (.str "count"))))
  (sSet 2 (dCall m__law_figures (aCons (dVar 1) aNil)))
  sNil)
  (sRet (dIf (dTst (dCall m__law_is_value (aCons (dVar 0) (aCons (dVar 2) aNil)))) (dVar 2) (dC .none))))))
def m__law_due : List PyData → Option PyData := fnP ["_law_kind_here", "_law_text", "_law_found"] 2 b__law_due
theorem ok__law_due (F : Std K mg "_law_due" s__law_due ["_law_kind_here", "_law_text"]) (T : Tx K mg) (c__law_figures : Cal P w K mg base 1 "_law_figures" ["_law_word_here"] (spP K m__law_figures)) (c__law_is_value : Cal P w K mg base 2 "_law_is_value" ["_law_kind_here", "_law_thing"] (spP K m__law_is_value)) : Cal P w K mg base 3 "_law_due" ["_law_kind_here", "_law_text"] (spP K m__law_due) := by
  refine calP F sc__law_due (fun f cdv A outer s H E Z hr => ?_)
  unfold b__law_due
  exact (scons (sset (i := 2) sc__law_due.nd rfl (by first | exact .inl rfl | exact .inr rfl) (dv 1))
  (scons (sif (dtcmp (op_eqA hr.units) ok_eq (dix ix_seq ok_ix (dv 0) di) ds (nomark _))
  (sone (sset (i := 2) sc__law_due.nd rfl (by first | exact .inl rfl | exact .inr rfl) (dif_ (dtcmp (op_neA hr.units) ok_ne (dv 1) ds (nomark _)) (dcty call_tuple_ofF ok_tuple (by rfl) T.b_tuple (by decide +kernel) (dac (dfr (fsplit (dv 1) ds)) danil)) (dtup danil))))
  snil)
  (scons (sif (dtcmp (op_eqA hr.units) ok_eq (dix ix_seq ok_ix (dv 0) di) ds (nomark _))
  (sone (sset (i := 2) sc__law_due.nd rfl (by first | exact .inl rfl | exact .inr rfl) (dcl c__law_figures hr (by decide) (by rfl) (dac (dv 1) danil))))
  snil)
  (sone (sret (dif_ (dt (dcl c__law_is_value hr (by decide) (by rfl) (dac (dv 0) (dac (dv 2) danil)))) (dv 2) dn))))))
/-! #### _law_text_bent -/
abbrev s__law_text_bent : Stmt := topS 62
theorem sc__law_text_bent : FnScope ["_law_pot_here", "_law_text", "_law_signs", "_law_way", "_law_at", "_law_sign", "_law_words_here", "_law_place", "_law_to", "_law_other"] ["_law_pot_here", "_law_text"] (defScope s__law_text_bent) := ⟨rfl, rfl, rfl, by decide +kernel, rfl, by decide +kernel, by decide +kernel⟩
def b__law_text_bent : DS := (sSeq (sSet 2 (dC (.str "abcdefghijklmnopqrstuvwxyz0123456789 -+()AZ.,~_\n")))
  (sSeq (sSet 3 (dCallM m__law_take 0 (aCons (dC (.int 7)) aNil)))
  (sSeq (sSet 4 (dCallM m__law_take 0 (aCons (dOp gAdd (dB gLen (aCons (dVar 1) aNil)) (dC (.int 1))) aNil)))
  (sSeq (sSet 5 (dOp gIx (dVar 2) (dCallM m__law_take 0 (aCons (dB gLen (aCons (dVar 2) aNil)) aNil))))
  (sSeq (sOwn 6 (fSplit (dVar 1) (dC (.str " "))))
  (sSeq (sPar 7 8 (dCallM m__law_take 0 (aCons (dLenC 6) aNil)) (dCallM m__law_take 0 (aCons (dLenC 6) aNil)))
  (sSeq (sIf (dTst (dOp gLt (dVar 3) (dC (.int 3))))
  (sRet (dOp gIx (dL (fLst (aCons (dOp gAdd (dOp gAdd (dSl (dVar 1) oN (oS (dVar 4))) (dVar 5)) (dSl (dVar 1) (oS (dVar 4)) oN)) (aCons (dOp gAdd (dSl (dVar 1) oN (oS (dVar 4))) (dSl (dVar 1) (oS (dOp gAdd (dVar 4) (dC (.int 1)))) oN)) (aCons (dOp gAdd (dOp gAdd (dSl (dVar 1) oN (oS (dVar 4))) (dVar 5)) (dSl (dVar 1) (oS (dOp gAdd (dVar 4) (dC (.int 1)))) oN)) aNil))))) (dVar 3)))
  sNil)
  (sSeq (sSet 9 (dOp gIx (dL (fLst (aCons (dC (.str "is")) (aCons (dC (.str "0")) (aCons (dC (.str "and")) (aCons (dC (.str "-")) (aCons (dC (.str "(")) (aCons (dC (.str ")")) (aCons (dC (.str "a")) (aCons (dC (.str "not")) (aCons (dC (.str "")) (aCons (dC (.str "any")) (aCons (dC (.str "1000001")) (aCons (dC (.str "007")) (aCons (dC (.str "b+a")) (aCons (dIxC 6 (dVar 8)) aNil)))))))))))))))) (dCallM m__law_take 0 (aCons (dC (.int 14)) aNil))))
  (sSeq (sIf (dTst (dOp gEq (dVar 3) (dC (.int 3))))
  (sRet (dOp gJoin (dC (.str " ")) (dOp gAdd (dSlC 6 oN (oS (dVar 7))) (dSlC 6 (oS (dOp gAdd (dVar 7) (dC (.int 1)))) oN))))
  sNil)
  (sSeq (sIf (dTst (dOp gEq (dVar 3) (dC (.int 4))))
  (sRet (dOp gJoin (dC (.str " ")) (dOp gAdd (dOp gAdd (dSlC 6 oN (oS (dVar 7))) (dL (fLst (aCons (dVar 9) aNil)))) (dSlC 6 (oS (dVar 7)) oN))))
  sNil)
  (sSeq (sIf (dTst (dOp gEq (dVar 3) (dC (.int 5))))
  (sRet (dOp gJoin (dC (.str " ")) (dOp gAdd (dOp gAdd (dSlC 6 oN (oS (dVar 7))) (dL (fLst (aCons (dVar 9) aNil)))) (dSlC 6 (oS (dOp gAdd (dVar 7) (dC (.int 1)))) oN))))
  sNil)
  (sSeq (sSwp 6 (dIxC 6 (dVar 8)) (dIxC 6 (dVar 7)) (dVar 7) (dVar 8))
  (sRet (dJoinC (dC (.str " ")) 6))))))))))))))
def m__law_text_bent : List PyData → List PyData → Option (PyData × List PyData) := fnM ["_law_pot_here", "_law_text", "_law_signs", "_law_way", "_law_at", "_law_sign", "_law_words_here", "_law_place", "_law_to", "_law_other"] 2 b__law_text_bent
theorem ok__law_text_bent (F : Std K mg "_law_text_bent" s__law_text_bent ["_law_pot_here", "_law_text"]) (T : Tx K mg) (c__law_take : Cal P w K mg base 1 "_law_take" ["_law_pot_here", "_law_many"] (spM K m__law_take)) : Cal P w K mg base 2 "_law_text_bent" ["_law_pot_here", "_law_text"] (spM K m__law_text_bent) := by
  refine calM F sc__law_text_bent (fun f cdv A outer s H E Z hr => ?_)
  unfold b__law_text_bent
  exact (scons (sset (i := 2) sc__law_text_bent.nd rfl (by first | exact .inl rfl | exact .inr rfl) ds)
  (scons (sset (i := 3) sc__law_text_bent.nd rfl (by first | exact .inl rfl | exact .inr rfl) (dclM 0 c__law_take hr (by decide) (by rfl) (pv 0) (dac di danil)))
  (scons (sset (i := 4) sc__law_text_bent.nd rfl (by first | exact .inl rfl | exact .inr rfl) (dclM 0 c__law_take hr (by decide) (by rfl) (pv 0) (dac (do_ op_addA ok_add (dcb call_len ok_len (by rfl) T.b_len boot_len (dac (dv 1) danil)) di) danil)))
  (scons (sset (i := 5) sc__law_text_bent.nd rfl (by first | exact .inl rfl | exact .inr rfl) (dix ix_seq ok_ix (dv 2) (dclM 0 c__law_take hr (by decide) (by rfl) (pv 0) (dac (dcb call_len ok_len (by rfl) T.b_len boot_len (dac (dv 2) danil)) danil))))
  (scons (sown (i := 6) sc__law_text_bent.nd rfl (by first | exact .inl rfl | exact .inr rfl) (fsplit (dv 1) ds))
  (scons (spar (i := 7) (j := 8) rfl sc__law_text_bent.nd rfl rfl (by decide) rfl rfl (dclM 0 c__law_take hr (by decide) (by rfl) (pv 0) (dac (dlenC 6 (by rfl) T.b_len boot_len (pv 6)) danil)) (dclM 0 c__law_take hr (by decide) (by rfl) (pv 0) (dac (dlenC 6 (by rfl) T.b_len boot_len (pv 6)) danil)) (by rfl))
  (scons (sif (dtcmp op_ltA ok_lt (dv 3) di (nomark _))
  (sone (sret (dix ix_seq ok_ix (dfr (flst (dac (do_ op_addA ok_add (do_ op_addA ok_add (dsl (dv 1) don (dos (dv 4))) (dv 5)) (dsl (dv 1) (dos (dv 4)) don)) (dac (do_ op_addA ok_add (dsl (dv 1) don (dos (dv 4))) (dsl (dv 1) (dos (do_ op_addA ok_add (dv 4) di)) don)) (dac (do_ op_addA ok_add (do_ op_addA ok_add (dsl (dv 1) don (dos (dv 4))) (dv 5)) (dsl (dv 1) (dos (do_ op_addA ok_add (dv 4) di)) don)) danil))))) (dv 3))))
  snil)
  (scons (sset (i := 9) sc__law_text_bent.nd rfl (by first | exact .inl rfl | exact .inr rfl) (dix ix_seq ok_ix (dfr (flst (dac ds (dac ds (dac ds (dac ds (dac ds (dac ds (dac ds (dac ds (dac ds (dac ds (dac ds (dac ds (dac ds (dac (dixC 6 (pv 6) (dv 8)) danil)))))))))))))))) (dclM 0 c__law_take hr (by decide) (by rfl) (pv 0) (dac di danil))))
  (scons (sif (dtcmp (op_eqA hr.units) ok_eq (dv 3) di (nomark _))
  (sone (sret (djoin ds (do_ op_addA ok_add (dslC 6 (pv 6) don (dos (dv 7))) (dslC 6 (pv 6) (dos (do_ op_addA ok_add (dv 7) di)) don)))))
  snil)
  (scons (sif (dtcmp (op_eqA hr.units) ok_eq (dv 3) di (nomark _))
  (sone (sret (djoin ds (do_ op_addA ok_add (do_ op_addA ok_add (dslC 6 (pv 6) don (dos (dv 7))) (dfr (flst (dac (dv 9) danil)))) (dslC 6 (pv 6) (dos (dv 7)) don)))))
  snil)
  (scons (sif (dtcmp (op_eqA hr.units) ok_eq (dv 3) di (nomark _))
  (sone (sret (djoin ds (do_ op_addA ok_add (do_ op_addA ok_add (dslC 6 (pv 6) don (dos (dv 7))) (dfr (flst (dac (dv 9) danil)))) (dslC 6 (pv 6) (dos (do_ op_addA ok_add (dv 7) di)) don)))))
  snil)
  (scons (sswp 6 rfl (dixC 6 (pv 6) (dv 8)) (dixC 6 (pv 6) (dv 7)) (pv 6) (pv 6) (dv 7) (dv 8))
  (sone (sret (djoinC 6 ds (pv 6))))))))))))))))
/-! #### _law_word -/
abbrev s__law_word : Stmt := topS 66
theorem sc__law_word : FnScope ["_law_call", "_law_caught", "e", "_law_kinds", "_law_others"] ["_law_call"] (defScope s__law_word) := ⟨rfl, rfl, rfl, by decide +kernel, rfl, by decide +kernel, by decide +kernel⟩
def b__law_word : DS := (sSeq (sIf (dTst (dOp gIsN (dVar 1) (dC .none)))
  (sRet (dC (.str "told")))
  sNil)
  (sSeq (sSet 3 (dL (fLst (aCons (dUn (gIsE nm_ "NoKind") (dVar 1)) (aCons (dUn (gIsE nm_ "NoValue") (dVar 1)) (aCons (dUn (gIsE nm_ "NoCondition") (dVar 1)) aNil))))))
  (sSeq (sOwn 4 (fLst (aCons (dUn (gIsEs nm_ ["NoForm", "NoKey", "TooWide", "Stuck", "NoBook", "Clash", "Full", "NoNames"]) (dVar 1)) aNil)))
  (sSeq (sApp 4 (dUn (gIsEs nm_ ["NoEntry", "NoCheck", "Twice", "NoLines", "NoRound", "NoWeights", "NoTable"]) (dVar 1)))
  (sSeq (sApp 4 (dUn (gIsEs nm_ ["NoFits", "NoTotals", "NoCounts", "NoPlaces", "NoPlace", "NoText", "NoLine"]) (dVar 1)))
  (sSeq (sApp 4 (dUn (gIsEs nm_ ["CannotGo", "NoRecord", "NoFit"]) (dVar 1)))
  (sSeq (sIf (dOrT (dTst (dOp gNe (dOp gCount (dVar 3) (dC (.bool true))) (dC (.int 1)))) (dOrT (dTst (dInC false (dC (.bool true)) 4)) (dNotT (dTst (dUn (gIsEV nm_) (dVar 1))))))
  (sRet (dC (.str "odd")))
  sNil)
  (sRet (dOp gIx (dL (fLst (aCons (dC (.str "kind")) (aCons (dC (.str "value")) (aCons (dC (.str "condition")) aNil))))) (dOp gIndex (dVar 3) (dC (.bool true))))))))))))
def w__law_word : Option Str → Option Str := wordOf nm_ 3 b__law_word
theorem ok__law_word (T : Tx K mg) (Fx : ExF K mg nm_ ts_) {k : Nat} (g : Addr) (cdv : Value) (A : Around) (outer : List Env) (s : Shared) (H : Hp) (Z : Par) (hr : Room k (A.deeper (envOfC "_law_word" (defScope s__law_word) s.heap.objs.size g cdv))) : PSs (cxOf C8.CX0 P w K mg base ["_law_call", "_law_caught", "e", "_law_kinds", "_law_others"] "_law_word" (defScope s__law_word) g cdv A outer s H C8.E0).nox ((defBody s__law_word).drop 2) (lfS K Z b__law_word) := by
  unfold b__law_word
  exact (scons (sif (dtcmp op_isN ok_isN (dv 1) dn (nomark _))
  (sone (sret ds))
  snil)
  (scons (sset (i := 3) sc__law_word.nd rfl (by first | exact .inl rfl | exact .inr rfl) (dfr (flst (dac (disX Fx (by decide) (by rfl) T.b_isinstance (by decide +kernel) (by rfl) (dv 1)) (dac (disX Fx (by decide) (by rfl) T.b_isinstance (by decide +kernel) (by rfl) (dv 1)) (dac (disX Fx (by decide) (by rfl) T.b_isinstance (by decide +kernel) (by rfl) (dv 1)) danil))))))
  (scons (sown (i := 4) sc__law_word.nd rfl (by first | exact .inl rfl | exact .inr rfl) (flst (dac (disXs Fx (by decide) (by decide) (by rfl) T.b_isinstance (by decide +kernel) (clsCons (Fx.at_ "NoForm" (by decide)) (by rfl) (clsCons (Fx.at_ "NoKey" (by decide)) (by rfl) (clsCons (Fx.at_ "TooWide" (by decide)) (by rfl) (clsCons (Fx.at_ "Stuck" (by decide)) (by rfl) (clsCons (Fx.at_ "NoBook" (by decide)) (by rfl) (clsCons (Fx.at_ "Clash" (by decide)) (by rfl) (clsCons (Fx.at_ "Full" (by decide)) (by rfl) (clsCons (Fx.at_ "NoNames" (by decide)) (by rfl) clsNil)))))))) (dv 1)) danil)))
  (scons (sapp 4 (pv 4) (disXs Fx (by decide) (by decide) (by rfl) T.b_isinstance (by decide +kernel) (clsCons (Fx.at_ "NoEntry" (by decide)) (by rfl) (clsCons (Fx.at_ "NoCheck" (by decide)) (by rfl) (clsCons (Fx.at_ "Twice" (by decide)) (by rfl) (clsCons (Fx.at_ "NoLines" (by decide)) (by rfl) (clsCons (Fx.at_ "NoRound" (by decide)) (by rfl) (clsCons (Fx.at_ "NoWeights" (by decide)) (by rfl) (clsCons (Fx.at_ "NoTable" (by decide)) (by rfl) clsNil))))))) (dv 1)))
  (scons (sapp 4 (pv 4) (disXs Fx (by decide) (by decide) (by rfl) T.b_isinstance (by decide +kernel) (clsCons (Fx.at_ "NoFits" (by decide)) (by rfl) (clsCons (Fx.at_ "NoTotals" (by decide)) (by rfl) (clsCons (Fx.at_ "NoCounts" (by decide)) (by rfl) (clsCons (Fx.at_ "NoPlaces" (by decide)) (by rfl) (clsCons (Fx.at_ "NoPlace" (by decide)) (by rfl) (clsCons (Fx.at_ "NoText" (by decide)) (by rfl) (clsCons (Fx.at_ "NoLine" (by decide)) (by rfl) clsNil))))))) (dv 1)))
  (scons (sapp 4 (pv 4) (disXs Fx (by decide) (by decide) (by rfl) T.b_isinstance (by decide +kernel) (clsCons (Fx.at_ "CannotGo" (by decide)) (by rfl) (clsCons (Fx.at_ "NoRecord" (by decide)) (by rfl) (clsCons (Fx.at_ "NoFit" (by decide)) (by rfl) clsNil))) (dv 1)))
  (scons (sif (PW.pt (dtor (dtcmp (op_neA hr.units) ok_ne (dcount (dv 3) db) di (nomark _)) (dtor (dtinC false op_in_seq 4 db (pv 4) (by first | rfl | with_unfolding_all rfl)) (pw_or1 (dtnot (dt (disV Fx (by rfl) T.b_isinstance (by decide +kernel) (by rfl) T.b_ValueError (by decide +kernel) (dv 1))))))))
  (sone (sret ds))
  snil)
  (sone (sret (dix ix_seq ok_ix (dfr (flst (dac ds (dac ds (dac ds danil))))) (dindex (dv 3) db)))))))))))
theorem wg__law_word {X : Cx} (T : Tx X.K X.mg) (Fx : ExF X.K X.mg nm_ ts_) {k : Nat} (hr : Room (k + 1) X.A) (q : Str) (g : Addr) (cdv : Value) : LamX.GivesTo X ["_law_call", "_law_caught", "e", "_law_kinds", "_law_others"] "_law_word" (defScope s__law_word) g cdv (defBody s__law_word) "_law_call" q (TTw X.K nm_ w__law_word) :=
  word_gives (rest := (defBody s__law_word).drop 2) (b := b__law_word) rfl sc__law_word.nd Fx rfl rfl rfl rfl (.inl rfl) rfl (fun C e1 e2 => by rfl) (fun C e1 => by rfl) (fun C e1 => by rfl) rfl rfl (fun f s H Z => ok__law_word T Fx g cdv X.A X.stack s H Z (hr.deeper _))
/-! #### is_whole -/
abbrev s_is_whole : Stmt := topS 40
theorem sc_is_whole : FnScope ["thing"] ["thing"] (defScope s_is_whole) := ⟨rfl, rfl, rfl, by decide +kernel, rfl, by decide +kernel, by decide +kernel⟩
def b_is_whole : DS := (sRet (dAnd (dUn (gIsi "int") (dVar 0)) (dNot (dUn (gIsi "bool") (dVar 0)))))
def m_is_whole : List PyData → Option PyData := fnP ["thing"] 1 b_is_whole
theorem ok_is_whole (F : Std K mg "is_whole" s_is_whole ["thing"]) (T : Tx K mg)  : Cal P w K mg base 1 "is_whole" ["thing"] (spP K m_is_whole) := by
  refine calP F sc_is_whole (fun f cdv A outer s H E Z hr => ?_)
  unfold b_is_whole
  exact (sone (sret (dand (disi isi_int (by rfl) T.b_isinstance (by decide +kernel) (by rfl) T.b_int (by decide +kernel) (dv 0)) (pe_one (dnot (disi isi_bool (by rfl) T.b_isinstance (by decide +kernel) (by rfl) T.b_bool (by decide +kernel) (dv 0)))))))
/-! #### is_number -/
abbrev s_is_number : Stmt := topS 41
theorem sc_is_number : FnScope ["thing"] ["thing"] (defScope s_is_number) := ⟨rfl, rfl, rfl, by decide +kernel, rfl, by decide +kernel, by decide +kernel⟩
def b_is_number : DS := (sRet (dAnd (dCall m_is_whole (aCons (dVar 0) aNil)) (dChain gLe gLe (dC (.int 0)) (dVar 0) (dC d_TOP_NUMBER))))
def m_is_number : List PyData → Option PyData := fnP ["thing"] 1 b_is_number
theorem ok_is_number (F : Std K mg "is_number" s_is_number ["thing"]) (T : Tx K mg) (c_is_whole : Cal P w K mg base 1 "is_whole" ["thing"] (spP K m_is_whole)) : Cal P w K mg base 2 "is_number" ["thing"] (spP K m_is_number) := by
  refine calP F sc_is_number (fun f cdv A outer s H E Z hr => ?_)
  unfold b_is_number
  exact (sone (sret (dand (dcl c_is_whole hr (by decide) (by rfl) (dac (dv 0) danil)) (pe_one (dchain op_leA ok_le op_leA ok_le di (dv 0) (dgc (by rfl) T.c_TOP_NUMBER))))))
/-! #### is_name -/
abbrev s_is_name : Stmt := topS 38
theorem sc_is_name : FnScope ["thing", "sign"] ["thing"] (defScope s_is_name) := ⟨rfl, rfl, rfl, by decide +kernel, rfl, by decide +kernel, by decide +kernel⟩
def b_is_name : DS := (sSeq (sIf (dOrT (dNotT (dTst (dUn (gIsi "str") (dVar 0)))) (dOrT (dNotT (dTst (dChain gLe gLe (dC (.int 1)) (dB gLen (aCons (dVar 0) aNil)) (dC d_LONGEST_NAME)))) (dTst (dOp (gIn false) (dVar 0) (dC d_WORDS)))))
  (sRet (dC (.bool false)))
  sNil)
  (sRet (dB gAll (aCons (dL (fLc (itA (dVar 0)) 1 tYesD (dOp (gIn false) (dVar 1) (dC d_LETTERS)))) aNil))))
def m_is_name : List PyData → Option PyData := fnP ["thing", "sign"] 1 b_is_name
theorem ok_is_name (F : Std K mg "is_name" s_is_name ["thing"]) (T : Tx K mg)  : Cal P w K mg base 1 "is_name" ["thing"] (spP K m_is_name) := by
  refine calP F sc_is_name (fun f cdv A outer s H E Z hr => ?_)
  unfold b_is_name
  exact (scons (sif (PW.pt (dtor (dtnot (dt (disi isi_str (by rfl) T.b_isinstance (by decide +kernel) (by rfl) T.b_str (by decide +kernel) (dv 0)))) (dtor (dtnot (dtchain op_leA ok_le op_leA ok_le di (dcb call_len ok_len (by rfl) T.b_len boot_len (dac (dv 0) danil)) (dgc (by rfl) T.c_LONGEST_NAME))) (pw_or1 (dtcmp (op_inA (hu_of hr)) ok_in (dv 0) (dgc (by rfl) T.c_WORDS) (by first | rfl | with_unfolding_all rfl))))))
  (sone (sret db))
  snil)
  (sone (sret (dcb (cr_all rfl) ok_all (by rfl) T.b_all (by decide +kernel) (dac (dfr (flc rfl sc_is_name.nd (pia (dv 0)) (blkOk_by (own := [("sign", 1)]) (N := ["thing", "sign"]) (sc := defScope s_is_name) (by decide +kernel)) (fun _ _ _ _ _ => pg_name (i := 1) sc_is_name.nd rfl (by first | exact .inl rfl | exact .inr rfl)) (fun _ _ _ _ _ _ => tynil) (fun _ _ _ _ _ _ => (dcmp (op_inA (hu_of hr)) ok_in (dv 1) (dgc (by rfl) T.c_LETTERS) (by first | rfl | with_unfolding_all rfl))))) danil)))))
/-! #### are_names -/
abbrev s_are_names : Stmt := topS 39
theorem sc_are_names : FnScope ["thing", "least", "most", "name"] ["thing", "least", "most"] (defScope s_are_names) := ⟨rfl, rfl, rfl, by decide +kernel, rfl, by decide +kernel, by decide +kernel⟩
def b_are_names : DS := (sSeq (sIf (dOrT (dNotT (dTst (dUn (gIsi "tuple") (dVar 0)))) (dNotT (dTst (dChain gLe gLe (dVar 1) (dB gLen (aCons (dVar 0) aNil)) (dVar 2)))))
  (sRet (dC (.bool false)))
  sNil)
  (sRet (dAnd (dB gAll (aCons (dL (fLc (itA (dVar 0)) 3 tYesD (dCall m_is_name (aCons (dVar 3) aNil)))) aNil)) (dOp gEq (dUn gLenSet (dVar 0)) (dB gLen (aCons (dVar 0) aNil))))))
def m_are_names : List PyData → Option PyData := fnP ["thing", "least", "most", "name"] 3 b_are_names
theorem ok_are_names (F : Std K mg "are_names" s_are_names ["thing", "least", "most"]) (T : Tx K mg) (c_is_name : Cal P w K mg base 1 "is_name" ["thing"] (spP K m_is_name)) : Cal P w K mg base 2 "are_names" ["thing", "least", "most"] (spP K m_are_names) := by
  refine calP F sc_are_names (fun f cdv A outer s H E Z hr => ?_)
  unfold b_are_names
  exact (scons (sif (PW.pt (dtor (dtnot (dt (disi isi_tuple (by rfl) T.b_isinstance (by decide +kernel) (by rfl) T.b_tuple (by decide +kernel) (dv 0)))) (pw_or1 (dtnot (dtchain op_leA ok_le op_leA ok_le (dv 1) (dcb call_len ok_len (by rfl) T.b_len boot_len (dac (dv 0) danil)) (dv 2))))))
  (sone (sret db))
  snil)
  (sone (sret (dand (dcb (cr_all rfl) ok_all (by rfl) T.b_all (by decide +kernel) (dac (dfr (flc rfl sc_are_names.nd (pia (dv 0)) (blkOk_by (own := [("name", 3)]) (N := ["thing", "least", "most", "name"]) (sc := defScope s_are_names) (by decide +kernel)) (fun _ _ _ _ _ => pg_name (i := 3) sc_are_names.nd rfl (by first | exact .inl rfl | exact .inr rfl)) (fun _ _ _ _ _ _ => tynil) (fun _ _ _ _ _ _ => (dcl c_is_name hr (by decide) (by rfl) (dac (dv 3) danil))))) danil)) (pe_one (dcmp (op_eqA hr.units) ok_eq (dlenset rfl (by rfl) T.b_len (by rfl) T.b_set (dv 0)) (dcb call_len ok_len (by rfl) T.b_len boot_len (dac (dv 0) danil)) (nomark _)))))))
/-! #### is_kind -/
abbrev s_is_kind : Stmt := topS 43
theorem sc_is_kind : FnScope ["thing", "word", "low", "high"] ["thing"] (defScope s_is_kind) := ⟨rfl, rfl, rfl, by decide +kernel, rfl, by decide +kernel, by decide +kernel⟩
def b_is_kind : DS := (sSeq (sIf (dOrT (dNotT (dTst (dUn (gIsi "tuple") (dVar 0)))) (dTst (dOp (gIn true) (dB gLen (aCons (dVar 0) aNil)) (dTup (aCons (dC (.int 2)) (aCons (dC (.int 3)) aNil))))))
  (sRet (dC (.bool false)))
  sNil)
  (sSeq (sIf (dTst (dOp gEq (dB gLen (aCons (dVar 0) aNil)) (dC (.int 2))))
  (sRet (dAnd (dOp (gIn false) (dOp gIx (dVar 0) (dC (.int 0))) (dTup (aCons (dC (.str "pick")) (aCons (dC (.str "some")) aNil)))) (dCall m_are_names (aCons (dOp gIx (dVar 0) (dC (.int 1))) (aCons (dC (.int 1)) (aCons (dC d_MOST_OPTIONS) aNil))))))
  sNil)
  (sSeq (sAsg (dVar 0) (tgT [(tgN 1), (tgN 2), (tgN 3)]))
  (sRet (dAnd (dOp gEq (dVar 1) (dC (.str "count"))) (dAnd (dCall m_is_number (aCons (dVar 2) aNil)) (dAnd (dCall m_is_number (aCons (dVar 3) aNil)) (dOp gLe (dVar 2) (dVar 3)))))))))
def m_is_kind : List PyData → Option PyData := fnP ["thing", "word", "low", "high"] 1 b_is_kind
theorem ok_is_kind (F : Std K mg "is_kind" s_is_kind ["thing"]) (T : Tx K mg) (c_are_names : Cal P w K mg base 2 "are_names" ["thing", "least", "most"] (spP K m_are_names)) (c_is_number : Cal P w K mg base 2 "is_number" ["thing"] (spP K m_is_number)) : Cal P w K mg base 3 "is_kind" ["thing"] (spP K m_is_kind) := by
  refine calP F sc_is_kind (fun f cdv A outer s H E Z hr => ?_)
  unfold b_is_kind
  exact (scons (sif (PW.pt (dtor (dtnot (dt (disi isi_tuple (by rfl) T.b_isinstance (by decide +kernel) (by rfl) T.b_tuple (by decide +kernel) (dv 0)))) (pw_or1 (dtcmp (op_notInA (hu_of hr)) ok_in (dcb call_len ok_len (by rfl) T.b_len boot_len (dac (dv 0) danil)) (dtup (dac di (dac di danil))) (by first | rfl | with_unfolding_all rfl)))))
  (sone (sret db))
  snil)
  (scons (sif (dtcmp (op_eqA hr.units) ok_eq (dcb call_len ok_len (by rfl) T.b_len boot_len (dac (dv 0) danil)) di (nomark _))
  (sone (sret (dand (dcmp (op_inA (hu_of hr)) ok_in (dix ix_seq ok_ix (dv 0) di) (dtup (dac ds (dac ds danil))) (by first | rfl | with_unfolding_all rfl)) (pe_one (dcl c_are_names hr (by decide) (by rfl) (dac (dix ix_seq ok_ix (dv 0) di) (dac di (dac (dgc (by rfl) T.c_MOST_OPTIONS) danil))))))))
  snil)
  (scons (sasg (dv 0) (pg_tup rfl (pgs_cons (pg_name (i := 1) sc_is_kind.nd rfl (by first | exact .inl rfl | exact .inr rfl)) (pgs_cons (pg_name (i := 2) sc_is_kind.nd rfl (by first | exact .inl rfl | exact .inr rfl)) (pgs_cons (pg_name (i := 3) sc_is_kind.nd rfl (by first | exact .inl rfl | exact .inr rfl)) pgs_nil)))) (tgt rfl (tgscons tgn (tgscons tgn (tgscons tgn tgsnil)))))
  (sone (sret (dand (dcmp (op_eqA hr.units) ok_eq (dv 1) ds (nomark _)) (dand (dcl c_is_number hr (by decide) (by rfl) (dac (dv 2) danil)) (dand (dcl c_is_number hr (by decide) (by rfl) (dac (dv 3) danil)) (pe_one (dcmp op_leA ok_le (dv 2) (dv 3) (nomark _)))))))))))
/-! #### check_kind -/
abbrev s_check_kind : Stmt := topS 44
theorem sc_check_kind : FnScope ["thing"] ["thing"] (defScope s_check_kind) := ⟨rfl, rfl, rfl, by decide +kernel, rfl, by decide +kernel, by decide +kernel⟩
def b_check_kind : DSx := (xsIf (dNotT (dTst (dCall m_is_kind (aCons (dVar 0) aNil))))
  (xsRaise "NoKind")
  (xsUp sNil))
def m_check_kind : List PyData → Option (Rx PyData) := fnX ["thing"] 1 b_check_kind
theorem ok_check_kind (F : Std K mg "check_kind" s_check_kind ["thing"]) (T : Tx K mg) (Fx : ExF K mg nm_ ts_) (c_is_kind : Cal P w K mg base 3 "is_kind" ["thing"] (spP K m_is_kind)) : CalX P w K mg base 4 "check_kind" ["thing"] (spX K mg m_check_kind) := by
  refine calX F sc_check_kind (fun f cdv A outer s H E Z hr => ?_)
  unfold b_check_kind
  exact (xsone (xsif (dtnot (dt (dcl c_is_kind hr (by decide) (by rfl) (dac (dv 0) danil))))
  (xsone (xsraise (Fx.mak "NoKind" (by decide)) rfl (L2.takes_of rfl rfl rfl rfl) (by rfl)))
  xsnil))
/-! #### is_value -/
abbrev s_is_value : Stmt := topS 45
theorem sc_is_value : FnScope ["kind", "thing", "option"] ["kind", "thing"] (defScope s_is_value) := ⟨rfl, rfl, rfl, by decide +kernel, rfl, by decide +kernel, by decide +kernel⟩
def b_is_value : DSx := (xsSeq (xsDrop (xCall m_check_kind (aCons (dVar 0) aNil)))
  (xsSeq (xsUp (sIf (dTst (dOp gEq (dOp gIx (dVar 0) (dC (.int 0))) (dC (.str "pick"))))
  (sRet (dOp (gIn false) (dVar 1) (dOp gIx (dVar 0) (dC (.int 1)))))
  sNil))
  (xsSeq (xsUp (sIf (dTst (dOp gEq (dOp gIx (dVar 0) (dC (.int 0))) (dC (.str "some"))))
  (sRet (dAnd (dUn (gIsi "tuple") (dVar 1)) (dOp gEqTS (dVar 1) (dB gTuple (aCons (dL (fLc (itA (dOp gIx (dVar 0) (dC (.int 1)))) 2 (dTst (dOp gInR (dVar 2) (dVar 1))) (dVar 2))) aNil)))))
  sNil))
  (xsUp (sRet (dAnd (dCall m_is_whole (aCons (dVar 1) aNil)) (dChain gLe gLe (dOp gIx (dVar 0) (dC (.int 1))) (dVar 1) (dOp gIx (dVar 0) (dC (.int 2))))))))))
def m_is_value : List PyData → Option (Rx PyData) := fnX ["kind", "thing", "option"] 2 b_is_value
theorem ok_is_value (F : Std K mg "is_value" s_is_value ["kind", "thing"]) (T : Tx K mg) (c_check_kind : CalX P w K mg base 4 "check_kind" ["thing"] (spX K mg m_check_kind)) (c_is_whole : Cal P w K mg base 1 "is_whole" ["thing"] (spP K m_is_whole)) : CalX P w K mg base 5 "is_value" ["kind", "thing"] (spX K mg m_is_value) := by
  refine calX F sc_is_value (fun f cdv A outer s H E Z hr => ?_)
  unfold b_is_value
  exact (xscons (xsdrop (xcl (L2.takes_of rfl rfl rfl rfl) c_check_kind hr (by decide) (by rfl) (dac (dv 0) danil)))
  (xscons (xsup (sif (dtcmp (op_eqA hr.units) ok_eq (dix ix_seq ok_ix (dv 0) di) ds (nomark _))
  (sone (sret (dcmp (op_inA (hu_of hr)) ok_in (dv 1) (dix ix_seq ok_ix (dv 0) di) (by first | rfl | with_unfolding_all rfl))))
  snil))
  (xscons (xsup (sif (dtcmp (op_eqA hr.units) ok_eq (dix ix_seq ok_ix (dv 0) di) ds (nomark _))
  (sone (sret (dand (disi isi_tuple (by rfl) T.b_isinstance (by decide +kernel) (by rfl) T.b_tuple (by decide +kernel) (dv 1)) (pe_one (dcmp (op_eqTS (hu_of hr)) ok_eqTS (dv 1) (dcty call_tuple_ofF ok_tuple (by rfl) T.b_tuple (by decide +kernel) (dac (dfr (flc rfl sc_is_value.nd (pia (dix ix_seq ok_ix (dv 0) di)) (blkOk_by (own := [("option", 2)]) (N := ["kind", "thing", "option"]) (sc := defScope s_is_value) (by decide +kernel)) (fun _ _ _ _ _ => pg_name (i := 2) sc_is_value.nd rfl (by first | exact .inl rfl | exact .inr rfl)) (fun _ _ _ _ _ _ => (pts_one (dtcmp (op_inR (hu_of hr)) ok_inR (dv 2) (dv 1) (by first | rfl | with_unfolding_all rfl)))) (fun _ _ _ _ _ _ => (dv 2)))) danil)) (nomark _))))))
  snil))
  (xsone (xsup (sret (dand (dcl c_is_whole hr (by decide) (by rfl) (dac (dv 1) danil)) (pe_one (dchain op_leA ok_le op_leA ok_le (dix ix_seq ok_ix (dv 0) di) (dv 1) (dix ix_seq ok_ix (dv 0) di))))))))))
/-! #### value_text -/
abbrev s_value_text : Stmt := topS 46
theorem sc_value_text : FnScope ["kind", "value"] ["kind", "value"] (defScope s_value_text) := ⟨rfl, rfl, rfl, by decide +kernel, rfl, by decide +kernel, by decide +kernel⟩
def b_value_text : DSx := (xsSeq (xsIfX (xNotT (xTst (xCall m_is_value (aCons (dVar 0) (aCons (dVar 1) aNil)))))
  (xsRaise "NoValue")
  (xsUp sNil))
  (xsSeq (xsUp (sIf (dTst (dOp gEq (dOp gIx (dVar 0) (dC (.int 0))) (dC (.str "some"))))
  (sRet (dIf (dTru (dVar 1)) (dOp gJoin (dC (.str "+")) (dVar 1)) (dC (.str "-"))))
  sNil))
  (xsUp (sRet (dB gStr1 (aCons (dVar 1) aNil))))))
def m_value_text : List PyData → Option (Rx PyData) := fnX ["kind", "value"] 2 b_value_text
theorem ok_value_text (F : Std K mg "value_text" s_value_text ["kind", "value"]) (T : Tx K mg) (Fx : ExF K mg nm_ ts_) (c_is_value : CalX P w K mg base 5 "is_value" ["kind", "thing"] (spX K mg m_is_value)) : CalX P w K mg base 6 "value_text" ["kind", "value"] (spX K mg m_value_text) := by
  refine calX F sc_value_text (fun f cdv A outer s H E Z hr => ?_)
  unfold b_value_text
  exact (xscons (xsifx (xtnot (xt (xcl (L2.takes_of rfl rfl rfl rfl) c_is_value hr (by decide) (by rfl) (dac (dv 0) (dac (dv 1) danil)))))
  (xsone (xsraise (Fx.mak "NoValue" (by decide)) rfl (L2.takes_of rfl rfl rfl rfl) (by rfl)))
  xsnil)
  (xscons (xsup (sif (dtcmp (op_eqA hr.units) ok_eq (dix ix_seq ok_ix (dv 0) di) ds (nomark _))
  (sone (sret (dif_ (dtru (dv 1)) (djoin ds (dv 1)) ds)))
  snil))
  (xsone (xsup (sret (dcty call_str1 ok_str1 (by rfl) T.b_str (by decide +kernel) (dac (dv 1) danil)))))))
/-! #### number_in -/
abbrev s_number_in : Stmt := topS 42
theorem sc_number_in : FnScope ["text", "sign", "number"] ["text"] (defScope s_number_in) := ⟨rfl, rfl, rfl, by decide +kernel, rfl, by decide +kernel, by decide +kernel⟩
def b_number_in : DS := (sSeq (sIf (dOrT (dNotT (dTst (dChain gLe gLe (dC (.int 1)) (dB gLen (aCons (dVar 0) aNil)) (dC d_MOST_FIGURES)))) (dNotT (dTst (dB gAll (aCons (dL (fLc (itA (dVar 0)) 1 tYesD (dOp (gIn false) (dVar 1) (dC d_FIGURES)))) aNil)))))
  (sRet (dC .none))
  sNil)
  (sSeq (sIf (dAndT (dTst (dOp gEq (dOp gIx (dVar 0) (dC (.int 0))) (dC (.str "0")))) (dTst (dOp gNe (dVar 0) (dC (.str "0")))))
  (sRet (dC .none))
  sNil)
  (sSeq (sSet 2 (dB gIntA (aCons (dVar 0) aNil)))
  (sRet (dIf (dTst (dOp gLe (dVar 2) (dC d_TOP_NUMBER))) (dVar 2) (dC .none))))))
def m_number_in : List PyData → Option PyData := fnP ["text", "sign", "number"] 1 b_number_in
theorem ok_number_in (F : Std K mg "number_in" s_number_in ["text"]) (T : Tx K mg)  : Cal P w K mg base 1 "number_in" ["text"] (spP K m_number_in) := by
  refine calP F sc_number_in (fun f cdv A outer s H E Z hr => ?_)
  unfold b_number_in
  exact (scons (sif (PW.pt (dtor (dtnot (dtchain op_leA ok_le op_leA ok_le di (dcb call_len ok_len (by rfl) T.b_len boot_len (dac (dv 0) danil)) (dgc (by rfl) T.c_MOST_FIGURES))) (pw_or1 (dtnot (dt (dcb (cr_all rfl) ok_all (by rfl) T.b_all (by decide +kernel) (dac (dfr (flc rfl sc_number_in.nd (pia (dv 0)) (blkOk_by (own := [("sign", 1)]) (N := ["text", "sign", "number"]) (sc := defScope s_number_in) (by decide +kernel)) (fun _ _ _ _ _ => pg_name (i := 1) sc_number_in.nd rfl (by first | exact .inl rfl | exact .inr rfl)) (fun _ _ _ _ _ _ => tynil) (fun _ _ _ _ _ _ => (dcmp (op_inA (hu_of hr)) ok_in (dv 1) (dgc (by rfl) T.c_FIGURES) (by first | rfl | with_unfolding_all rfl))))) danil)))))))
  (sone (sret dn))
  snil)
  (scons (sif (PW.pt (dtand (dtcmp (op_eqA hr.units) ok_eq (dix ix_seq ok_ix (dv 0) di) ds (nomark _)) (pw_and1 (dtcmp (op_neA hr.units) ok_ne (dv 0) ds (nomark _)))))
  (sone (sret dn))
  snil)
  (scons (sset (i := 2) sc_number_in.nd rfl (by first | exact .inl rfl | exact .inr rfl) (dcty call_intA ok_intA (by rfl) T.b_int (by decide +kernel) (dac (dv 0) danil)))
  (sone (sret (dif_ (dtcmp op_leA ok_le (dv 2) (dgc (by rfl) T.c_TOP_NUMBER) (nomark _)) (dv 2) dn))))))
/-! #### _value_in -/
abbrev s__value_in : Stmt := topS 48
theorem sc__value_in : FnScope ["word", "text"] ["word", "text"] (defScope s__value_in) := ⟨rfl, rfl, rfl, by decide +kernel, rfl, by decide +kernel, by decide +kernel⟩
def b__value_in : DS := (sSeq (sIf (dTst (dOp gEq (dVar 0) (dC (.str "pick"))))
  (sRet (dVar 1))
  sNil)
  (sSeq (sIf (dTst (dOp gEq (dVar 0) (dC (.str "some"))))
  (sRet (dIf (dTst (dOp gEq (dVar 1) (dC (.str "-")))) (dTup aNil) (dB gTuple (aCons (dL (fSplit (dVar 1) (dC (.str "+")))) aNil))))
  sNil)
  (sRet (dCall m_number_in (aCons (dVar 1) aNil)))))
def m__value_in : List PyData → Option PyData := fnP ["word", "text"] 2 b__value_in
theorem ok__value_in (F : Std K mg "_value_in" s__value_in ["word", "text"]) (T : Tx K mg) (c_number_in : Cal P w K mg base 1 "number_in" ["text"] (spP K m_number_in)) : Cal P w K mg base 2 "_value_in" ["word", "text"] (spP K m__value_in) := by
  refine calP F sc__value_in (fun f cdv A outer s H E Z hr => ?_)
  unfold b__value_in
  exact (scons (sif (dtcmp (op_eqA hr.units) ok_eq (dv 0) ds (nomark _))
  (sone (sret (dv 1)))
  snil)
  (scons (sif (dtcmp (op_eqA hr.units) ok_eq (dv 0) ds (nomark _))
  (sone (sret (dif_ (dtcmp (op_eqA hr.units) ok_eq (dv 1) ds (nomark _)) (dtup danil) (dcty call_tuple_ofF ok_tuple (by rfl) T.b_tuple (by decide +kernel) (dac (dfr (fsplit (dv 1) ds)) danil)))))
  snil)
  (sone (sret (dcl c_number_in hr (by decide) (by rfl) (dac (dv 1) danil))))))
/-! #### read_value -/
abbrev s_read_value : Stmt := topS 47
theorem sc_read_value : FnScope ["kind", "text", "value"] ["kind", "text"] (defScope s_read_value) := ⟨rfl, rfl, rfl, by decide +kernel, rfl, by decide +kernel, by decide +kernel⟩
def b_read_value : DSx := (xsSeq (xsDrop (xCall m_check_kind (aCons (dVar 0) aNil)))
  (xsSeq (xsUp (sSet 2 (dIf (dTst (dUn (gIsi "str") (dVar 1))) (dCall m__value_in (aCons (dOp gIx (dVar 0) (dC (.int 0))) (aCons (dVar 1) aNil))) (dC .none))))
  (xsSeq (xsIfX (xNotT (xTst (xCall m_is_value (aCons (dVar 0) (aCons (dVar 2) aNil)))))
  (xsRaise "NoValue")
  (xsUp sNil))
  (xsUp (sRet (dVar 2))))))
def m_read_value : List PyData → Option (Rx PyData) := fnX ["kind", "text", "value"] 2 b_read_value
theorem ok_read_value (F : Std K mg "read_value" s_read_value ["kind", "text"]) (T : Tx K mg) (Fx : ExF K mg nm_ ts_) (c_check_kind : CalX P w K mg base 4 "check_kind" ["thing"] (spX K mg m_check_kind)) (c__value_in : Cal P w K mg base 2 "_value_in" ["word", "text"] (spP K m__value_in)) (c_is_value : CalX P w K mg base 5 "is_value" ["kind", "thing"] (spX K mg m_is_value)) : CalX P w K mg base 6 "read_value" ["kind", "text"] (spX K mg m_read_value) := by
  refine calX F sc_read_value (fun f cdv A outer s H E Z hr => ?_)
  unfold b_read_value
  exact (xscons (xsdrop (xcl (L2.takes_of rfl rfl rfl rfl) c_check_kind hr (by decide) (by rfl) (dac (dv 0) danil)))
  (xscons (xsup (sset (i := 2) sc_read_value.nd rfl (by first | exact .inl rfl | exact .inr rfl) (dif_ (dt (disi isi_str (by rfl) T.b_isinstance (by decide +kernel) (by rfl) T.b_str (by decide +kernel) (dv 1))) (dcl c__value_in hr (by decide) (by rfl) (dac (dix ix_seq ok_ix (dv 0) di) (dac (dv 1) danil))) dn)))
  (xscons (xsifx (xtnot (xt (xcl (L2.takes_of rfl rfl rfl rfl) c_is_value hr (by decide) (by rfl) (dac (dv 0) (dac (dv 2) danil)))))
  (xsone (xsraise (Fx.mak "NoValue" (by decide)) rfl (L2.takes_of rfl rfl rfl rfl) (by rfl)))
  xsnil)
  (xsone (xsup (sret (dv 2)))))))
/-! #### _law_texts_right -/
abbrev s__law_texts_right : Stmt := topS 70
theorem sc__law_texts_right : FnScope ["_law_pot_here", "_law_kind_here", "_law_text", "_law_some", "_law_turn", "_law_other", "_law_due_here", "~tab"] ["_law_pot_here", "_law_kind_here", "_law_text"] (defScope s__law_texts_right) := ⟨rfl, rfl, rfl, by decide +kernel, rfl, by decide +kernel, by decide +kernel⟩
def qt__law_texts_right : Str := ("_law_texts_right" : Str) ++ ".<locals>." ++ "<lambda>"
def b__law_texts_right : DS := (sSeq (sSet 3 (dOp gAdd (dL (fLc (itR1 (dC (.int 6))) 4 tYesD (dCallM m__law_text_bent 0 (aCons (dVar 2) aNil)))) (dL (fLst (aCons (dC (.str "+5")) (aCons (dC (.str "1_0")) (aCons (dOp gJoin (dC (.str "+")) (dUn gRevL (dL (fSplit (dVar 2) (dC (.str "+")))))) aNil)))))))
  (sSeq (sIf (dTst (dOp gNe (dOp gIx (dVar 1) (dC (.int 0))) (dC (.str "count"))))
  (sSet 3 (dOp gAdd (dVar 3) (dL (fLst (aCons (dOp gJoin (dC (.str "+")) (dUn gRev (dOp gIx (dVar 1) (dC (.int 1))))) (aCons (dOp gJoin (dC (.str "+")) (dOp gAdd (dSl (dOp gIx (dVar 1) (dC (.int 1))) (oS (dUn gNeg (dC (.int 1)))) oN) (dSl (dOp gIx (dVar 1) (dC (.int 1))) oN (oS (dC (.int 1)))))) (aCons (dOp gJoin (dC (.str "+")) (dOp gIx (dVar 1) (dC (.int 1)))) aNil)))))))
  sNil)
  (sSeq (sFor (itA (dOp gAdd (dVar 3) (dL (fLst (aCons (dC (.str "")) (aCons (dC (.str "-")) (aCons (dC (.str "+")) (aCons (dOp gAdd (dVar 2) (dC (.str "+"))) (aCons (dOp gAdd (dC (.str "+")) (dVar 2)) (aCons (dOp gAdd (dVar 2) (dC (.str " "))) (aCons (dOp gAdd (dVar 2) (dC (.str "\n"))) (aCons (dOp gAdd (dC (.str "0")) (dVar 2)) (aCons (dC (.str "-0")) (aCons (dOp gAdd (dOp gAdd (dVar 2) (dC (.str "+"))) (dVar 2)) aNil)))))))))))))) (tgN 5)
  (sSeq (sSet 6 (dCall m__law_due (aCons (dVar 1) (aCons (dVar 5) aNil))))
  (sSeq (sIf (dAndT (dTst (dOp gIsN (dVar 6) (dC .none))) (dTst (dOp gNe (dWord 1 qt__law_texts_right w__law_word m_read_value (aCons (dVar 1) (aCons (dVar 5) aNil))) (dC (.str "value")))))
  (sRet (dC (.bool false)))
  sNil)
  (sSeq (sIf (dAndT (dTst (dOp gNotN (dVar 6) (dC .none))) (dTst (dOp gNe (dB gRepr (aCons (dCall (okOf m_read_value) (aCons (dVar 1) (aCons (dVar 5) aNil))) aNil)) (dB gRepr (aCons (dVar 6) aNil)))))
  (sRet (dC (.bool false)))
  sNil)
  (sIf (dAndT (dTst (dOp gNotN (dVar 6) (dC .none))) (dTst (dOp gNe (dCall (okOf m_value_text) (aCons (dVar 1) (aCons (dVar 6) aNil))) (dVar 5))))
  (sRet (dC (.bool false)))
  sNil)))))
  (sRet (dC (.bool true))))))
def m__law_texts_right : List PyData → List PyData → Option (PyData × List PyData) := fnMT ["_law_pot_here", "_law_kind_here", "_law_text", "_law_some", "_law_turn", "_law_other", "_law_due_here", "~tab"] qt__law_texts_right 3 b__law_texts_right
theorem ok__law_texts_right {c Tb : Addr} (F : Std K mg "_law_texts_right" s__law_texts_right ["_law_pot_here", "_law_kind_here", "_law_text"]) (F__law_word : Std K mg "_law_word" s__law_word ["_law_call"]) (T : Tx K mg) (Fx : ExF K mg nm_ ts_) (TB : LamX.TabB base mg c Tb) (hc : ∀ f fd, mg "_law_texts_right" = some (.ref f) → Fun K "_law_texts_right" "_law_texts_right" s__law_texts_right f fd → fd.code = .ref c) (sys : SysB base) (c__law_text_bent : Cal P w K mg base 2 "_law_text_bent" ["_law_pot_here", "_law_text"] (spM K m__law_text_bent)) (c__law_due : Cal P w K mg base 3 "_law_due" ["_law_kind_here", "_law_text"] (spP K m__law_due)) (c_read_value : CalX P w K mg base 6 "read_value" ["kind", "text"] (spX K mg m_read_value)) (c_value_text : CalX P w K mg base 6 "value_text" ["kind", "value"] (spX K mg m_value_text)) : CalG P w K mg base 9 "_law_texts_right" ["_law_pot_here", "_law_kind_here", "_law_text"] (spMT K Tb qt__law_texts_right m__law_texts_right) := by
  refine calMTG F sc__law_texts_right hc sys (by decide) (fun f A outer s H E Z hZ hr cg => ?_)
  unfold b__law_texts_right
  exact (scons (sset (i := 3) sc__law_texts_right.nd rfl (by first | exact .inl rfl | exact .inr rfl) (do_ op_addA ok_add (dfr (flc rfl sc__law_texts_right.nd (pir1 (by rfl) T.b_range di) (blkOk_by (own := [("_law_turn", 4)]) (N := ["_law_pot_here", "_law_kind_here", "_law_text", "_law_some", "_law_turn", "_law_other", "_law_due_here", "~tab"]) (sc := defScope s__law_texts_right) (by decide +kernel)) (fun _ _ _ _ _ => pg_name (i := 4) sc__law_texts_right.nd rfl (by first | exact .inl rfl | exact .inr rfl)) (fun _ _ _ _ _ _ => tynil) (fun _ _ _ _ _ _ => (dclM 0 c__law_text_bent hr (by decide) (by rfl) (pv 0) (dac (dv 2) danil))))) (dfr (flst (dac ds (dac ds (dac (djoin ds (drevL (dfr (fsplit (dv 2) ds)))) danil)))))))
  (scons (sif (dtcmp (op_neA hr.units) ok_ne (dix ix_seq ok_ix (dv 1) di) ds (nomark _))
  (sone (sset (i := 3) sc__law_texts_right.nd rfl (by first | exact .inl rfl | exact .inr rfl) (do_ op_addA ok_add (dv 3) (dfr (flst (dac (djoin ds (drev (dix ix_seq ok_ix (dv 1) di))) (dac (djoin ds (do_ op_addA ok_add (dsl (dix ix_seq ok_ix (dv 1) di) (dos (du un_neg ok_neg di)) don) (dsl (dix ix_seq ok_ix (dv 1) di) don (dos di)))) (dac (djoin ds (dix ix_seq ok_ix (dv 1) di)) danil))))))))
  snil)
  (scons (sfor PassesOwn.never rfl (pia (do_ op_addA ok_add (dv 3) (dfr (flst (dac ds (dac ds (dac ds (dac (do_ op_addA ok_add (dv 2) ds) (dac (do_ op_addA ok_add ds (dv 2)) (dac (do_ op_addA ok_add (dv 2) ds) (dac (do_ op_addA ok_add (dv 2) ds) (dac (do_ op_addA ok_add ds (dv 2)) (dac ds (dac (do_ op_addA ok_add (do_ op_addA ok_add (dv 2) ds) (dv 2)) danil)))))))))))))) (pg_name (i := 5) sc__law_texts_right.nd rfl (by first | exact .inl rfl | exact .inr rfl)) tgn
  (scons (sset (i := 6) sc__law_texts_right.nd rfl (by first | exact .inl rfl | exact .inr rfl) (dcl c__law_due hr (by decide) (by rfl) (dac (dv 1) (dac (dv 5) danil))))
  (scons (sif (PW.pt (dtand (dtcmp op_isN ok_isN (dv 6) dn (nomark _)) (pw_and1 (dtcmp (op_neA hr.units) ok_ne (dword F__law_word sc__law_word rfl (.inl rfl) (wg__law_word T Fx hr _) TB rfl hZ (by rfl) (hr.mono (j := 6 + 2) (by decide)) (nmd_of Fx) (fun _ _ => wordOf_in) (by rfl) (LamX.lamS_by (by show LamX.lamSB (defScope s__law_texts_right) _ = true; decide +kernel)) (fun A outer s H E f c r => xcl (L2.takes_of rfl rfl rfl rfl) c_read_value r (by decide) (by rfl) (dac (dv 1) (dac (dv 5) danil)))) ds (nomark _)))))
  (sone (sret db))
  snil)
  (scons (sif (PW.pt (dtand (dtcmp op_notN ok_notN (dv 6) dn (nomark _)) (pw_and1 (dtcmp (op_neA hr.units) ok_ne (dcb (call_repr cg) ok_repr (by rfl) T.b_repr (by decide +kernel) (dac (dclX c_read_value hr (by decide) (by rfl) (dac (dv 1) (dac (dv 5) danil))) danil)) (dcb (call_repr cg) ok_repr (by rfl) T.b_repr (by decide +kernel) (dac (dv 6) danil)) (nomark _)))))
  (sone (sret db))
  snil)
  (sone (sif (PW.pt (dtand (dtcmp op_notN ok_notN (dv 6) dn (nomark _)) (pw_and1 (dtcmp (op_neA hr.units) ok_ne (dclX c_value_text hr (by decide) (by rfl) (dac (dv 1) (dac (dv 6) danil))) (dv 5) (nomark _)))))
  (sone (sret db))
  snil))))))
  (sone (sret db)))))
/-! #### _law_refused_right -/
abbrev s__law_refused_right : Stmt := topS 71
theorem sc__law_refused_right : FnScope ["_law_pot_here", "_law_kind_here", "_law_value_here", "_law_bad", "_law_odd_here", "_law_thing", "~tab"] ["_law_pot_here", "_law_kind_here", "_law_value_here"] (defScope s__law_refused_right) := ⟨rfl, rfl, rfl, by decide +kernel, rfl, by decide +kernel, by decide +kernel⟩
def qt__law_refused_right : Str := ("_law_refused_right" : Str) ++ ".<locals>." ++ "<lambda>"
def b__law_refused_right : DS := (sSeq (sSet 3 (dOp gIx (dL (fLst (aCons (dTup (aCons (dC (.str "pick")) (aCons (dTup aNil) aNil))) (aCons (dTup (aCons (dC (.str "count")) (aCons (dC (.int 1)) (aCons (dC (.int 0)) aNil)))) (aCons (dC .none) (aCons (dB gList (aCons (dVar 1) aNil)) (aCons (dC (.str "pick a")) (aCons (dTup (aCons (dVar 1) aNil)) aNil)))))))) (dCallM m__law_take 0 (aCons (dC (.int 6)) aNil))))
  (sSeq (sSet 4 (dOp gIx (dL (fLst (aCons (dC .none) (aCons (dC (.bool true)) (aCons (dL (fLst aNil)) (aCons (dC (.dict [])) (aCons (dTup (aCons (dC (.str "Z")) aNil)) (aCons (dUn gNeg (dC (.int 1))) (aCons (dOp gPow (dC (.int 10)) (dC (.int 39))) (aCons (dC (.str "Z")) (aCons (dTup (aCons (dTup aNil) aNil)) aNil))))))))))) (dCallM m__law_take 0 (aCons (dC (.int 9)) aNil))))
  (sSeq (sIf (dTst (dOp gNe (dWord 1 qt__law_refused_right w__law_word m_value_text (aCons (dVar 3) (aCons (dVar 2) aNil))) (dC (.str "kind"))))
  (sRet (dC (.bool false)))
  sNil)
  (sSeq (sIf (dTst (dOp gNe (dWord 1 qt__law_refused_right w__law_word m_read_value (aCons (dVar 3) (aCons (dVar 4) aNil))) (dC (.str "kind"))))
  (sRet (dC (.bool false)))
  sNil)
  (sSeq (sIf (dTst (dOp gNe (dWord 1 qt__law_refused_right w__law_word m_value_text (aCons (dVar 3) (aCons (dVar 4) aNil))) (dC (.str "kind"))))
  (sRet (dC (.bool false)))
  sNil)
  (sSeq (sIf (dTst (dOp gNe (dWord 1 qt__law_refused_right w__law_word m_is_value (aCons (dVar 3) (aCons (dVar 4) aNil))) (dC (.str "kind"))))
  (sRet (dC (.bool false)))
  sNil)
  (sSeq (sSet 5 (dOp gIx (dL (fLst (aCons (dC .none) (aCons (dC (.int 5)) (aCons (dC (.bool true)) (aCons (dTup (aCons (dC (.str "a")) aNil)) (aCons (dL (fLst (aCons (dC (.str "a")) aNil))) (aCons (dC (.dict [])) (aCons (dIf (dNotT (dTst (dUn (gIsi "str") (dVar 2)))) (dVar 2) (dTup aNil)) aNil))))))))) (dCallM m__law_take 0 (aCons (dC (.int 7)) aNil))))
  (sSeq (sIf (dTst (dOp gNe (dWord 1 qt__law_refused_right w__law_word m_read_value (aCons (dVar 1) (aCons (dVar 5) aNil))) (dC (.str "value"))))
  (sRet (dC (.bool false)))
  sNil)
  (sRet (dOr (dCall m__law_is_value (aCons (dVar 1) (aCons (dVar 4) aNil))) (dOp gEq (dWord 1 qt__law_refused_right w__law_word m_value_text (aCons (dVar 1) (aCons (dVar 4) aNil))) (dC (.str "value")))))))))))))
def m__law_refused_right : List PyData → List PyData → Option (PyData × List PyData) := fnMT ["_law_pot_here", "_law_kind_here", "_law_value_here", "_law_bad", "_law_odd_here", "_law_thing", "~tab"] qt__law_refused_right 3 b__law_refused_right
theorem ok__law_refused_right {c Tb : Addr} (F : Std K mg "_law_refused_right" s__law_refused_right ["_law_pot_here", "_law_kind_here", "_law_value_here"]) (F__law_word : Std K mg "_law_word" s__law_word ["_law_call"]) (T : Tx K mg) (Fx : ExF K mg nm_ ts_) (TB : LamX.TabB base mg c Tb) (hc : ∀ f fd, mg "_law_refused_right" = some (.ref f) → Fun K "_law_refused_right" "_law_refused_right" s__law_refused_right f fd → fd.code = .ref c) (c__law_take : Cal P w K mg base 1 "_law_take" ["_law_pot_here", "_law_many"] (spM K m__law_take)) (c__law_is_value : Cal P w K mg base 2 "_law_is_value" ["_law_kind_here", "_law_thing"] (spP K m__law_is_value)) (c_value_text : CalX P w K mg base 6 "value_text" ["kind", "value"] (spX K mg m_value_text)) (c_read_value : CalX P w K mg base 6 "read_value" ["kind", "text"] (spX K mg m_read_value)) (c_is_value : CalX P w K mg base 5 "is_value" ["kind", "thing"] (spX K mg m_is_value)) : Cal P w K mg base 9 "_law_refused_right" ["_law_pot_here", "_law_kind_here", "_law_value_here"] (spMT K Tb qt__law_refused_right m__law_refused_right) := by
  refine calMT F sc__law_refused_right hc (by decide) (fun f A outer s H E Z hZ hr => ?_)
  unfold b__law_refused_right
  exact (scons (sset (i := 3) sc__law_refused_right.nd rfl (by first | exact .inl rfl | exact .inr rfl) (dix ix_seq ok_ix (dfr (flst (dac (dtup (dac ds (dac (dtup danil) danil))) (dac (dtup (dac ds (dac di (dac di danil)))) (dac dn (dac (dcty call_list_of ok_list (by rfl) T.b_list (by decide +kernel) (dac (dv 1) danil)) (dac ds (dac (dtup (dac (dv 1) danil)) danil)))))))) (dclM 0 c__law_take hr (by decide) (by rfl) (pv 0) (dac di danil))))
  (scons (sset (i := 4) sc__law_refused_right.nd rfl (by first | exact .inl rfl | exact .inr rfl) (dix ix_seq ok_ix (dfr (flst (dac dn (dac db (dac (dfr (flst danil)) (dac ddct (dac (dtup (dac ds danil)) (dac (du un_neg ok_neg di) (dac (do_ op_powW ok_pow di di) (dac ds (dac (dtup (dac (dtup danil) danil)) danil))))))))))) (dclM 0 c__law_take hr (by decide) (by rfl) (pv 0) (dac di danil))))
  (scons (sif (dtcmp (op_neA hr.units) ok_ne (dword F__law_word sc__law_word rfl (.inl rfl) (wg__law_word T Fx hr _) TB rfl hZ (by rfl) (hr.mono (j := 6 + 2) (by decide)) (nmd_of Fx) (fun _ _ => wordOf_in) (by rfl) (LamX.lamS_by (by show LamX.lamSB (defScope s__law_refused_right) _ = true; decide +kernel)) (fun A outer s H E f c r => xcl (L2.takes_of rfl rfl rfl rfl) c_value_text r (by decide) (by rfl) (dac (dv 3) (dac (dv 2) danil)))) ds (nomark _))
  (sone (sret db))
  snil)
  (scons (sif (dtcmp (op_neA hr.units) ok_ne (dword F__law_word sc__law_word rfl (.inl rfl) (wg__law_word T Fx hr _) TB rfl hZ (by rfl) (hr.mono (j := 6 + 2) (by decide)) (nmd_of Fx) (fun _ _ => wordOf_in) (by rfl) (LamX.lamS_by (by show LamX.lamSB (defScope s__law_refused_right) _ = true; decide +kernel)) (fun A outer s H E f c r => xcl (L2.takes_of rfl rfl rfl rfl) c_read_value r (by decide) (by rfl) (dac (dv 3) (dac (dv 4) danil)))) ds (nomark _))
  (sone (sret db))
  snil)
  (scons (sif (dtcmp (op_neA hr.units) ok_ne (dword F__law_word sc__law_word rfl (.inl rfl) (wg__law_word T Fx hr _) TB rfl hZ (by rfl) (hr.mono (j := 6 + 2) (by decide)) (nmd_of Fx) (fun _ _ => wordOf_in) (by rfl) (LamX.lamS_by (by show LamX.lamSB (defScope s__law_refused_right) _ = true; decide +kernel)) (fun A outer s H E f c r => xcl (L2.takes_of rfl rfl rfl rfl) c_value_text r (by decide) (by rfl) (dac (dv 3) (dac (dv 4) danil)))) ds (nomark _))
  (sone (sret db))
  snil)
  (scons (sif (dtcmp (op_neA hr.units) ok_ne (dword F__law_word sc__law_word rfl (.inl rfl) (wg__law_word T Fx hr _) TB rfl hZ (by rfl) (hr.mono (j := 6 + 2) (by decide)) (nmd_of Fx) (fun _ _ => wordOf_in) (by rfl) (LamX.lamS_by (by show LamX.lamSB (defScope s__law_refused_right) _ = true; decide +kernel)) (fun A outer s H E f c r => xcl (L2.takes_of rfl rfl rfl rfl) c_is_value r (by decide) (by rfl) (dac (dv 3) (dac (dv 4) danil)))) ds (nomark _))
  (sone (sret db))
  snil)
  (scons (sset (i := 5) sc__law_refused_right.nd rfl (by first | exact .inl rfl | exact .inr rfl) (dix ix_seq ok_ix (dfr (flst (dac dn (dac di (dac db (dac (dtup (dac ds danil)) (dac (dfr (flst (dac ds danil))) (dac ddct (dac (dif_ (dtnot (dt (disi isi_str (by rfl) T.b_isinstance (by decide +kernel) (by rfl) T.b_str (by decide +kernel) (dv 2)))) (dv 2) (dtup danil)) danil))))))))) (dclM 0 c__law_take hr (by decide) (by rfl) (pv 0) (dac di danil))))
  (scons (sif (dtcmp (op_neA hr.units) ok_ne (dword F__law_word sc__law_word rfl (.inl rfl) (wg__law_word T Fx hr _) TB rfl hZ (by rfl) (hr.mono (j := 6 + 2) (by decide)) (nmd_of Fx) (fun _ _ => wordOf_in) (by rfl) (LamX.lamS_by (by show LamX.lamSB (defScope s__law_refused_right) _ = true; decide +kernel)) (fun A outer s H E f c r => xcl (L2.takes_of rfl rfl rfl rfl) c_read_value r (by decide) (by rfl) (dac (dv 1) (dac (dv 5) danil)))) ds (nomark _))
  (sone (sret db))
  snil)
  (sone (sret (dor (dcl c__law_is_value hr (by decide) (by rfl) (dac (dv 1) (dac (dv 4) danil))) (pe_one (dcmp (op_eqA hr.units) ok_eq (dword F__law_word sc__law_word rfl (.inl rfl) (wg__law_word T Fx hr _) TB rfl hZ (by rfl) (hr.mono (j := 6 + 2) (by decide)) (nmd_of Fx) (fun _ _ => wordOf_in) (by rfl) (LamX.lamS_by (by show LamX.lamSB (defScope s__law_refused_right) _ = true; decide +kernel)) (fun A outer s H E f c r => xcl (L2.takes_of rfl rfl rfl rfl) c_value_text r (by decide) (by rfl) (dac (dv 1) (dac (dv 4) danil)))) ds (nomark _))))))))))))))
/-! #### law -/
abbrev s_law : Stmt := topS 72
theorem sc_law : FnScope ["_law_script", "_law_k", "_law_pot_here", "_law_kind_here", "_law_values", "_law_texts", "_law_value_here", "_law_text", "~tab0", "~tab1"] ["_law_script"] (defScope s_law) := ⟨rfl, rfl, rfl, by decide +kernel, rfl, by decide +kernel, by decide +kernel⟩
def b_law : DS := (sSeq (sFor (itR1 (dB gMax2 (aCons (dC (.int 3)) (aCons (dB gMin2 (aCons (dC (.int 10)) (aCons (dB gLen (aCons (dVar 0) aNil)) aNil))) aNil)))) (tgN 1)
  (sSeq (sOwn 2 (fCall m__law_pot (aCons (dVar 0) (aCons (dVar 1) aNil))))
  (sSeq (sSet 3 (dCallM m__law_kind 2 aNil))
  (sSeq (sSet 4 (dCallM m__law_all_values 2 (aCons (dVar 3) aNil)))
  (sSeq (sFgt 6) (sSeq (sSet 5 (dL (fLc (itA (dVar 4)) 6 tYesD (dCall m__law_written (aCons (dVar 6) aNil)))))
  (sSeq (sIf (dTst (dOp gNe (dUn gLenSetL (dVar 5)) (dB gLen (aCons (dVar 5) aNil))))
  (sRet (dC (.bool false)))
  sNil)
  (sSeq (sFor (itZ (dVar 4) (dVar 5)) (tgT [(tgN 6), (tgN 7)])
  (sIf (dOrT (dTst (dOp gNe (dCall (okOf m_value_text) (aCons (dVar 3) (aCons (dVar 6) aNil))) (dVar 7))) (dTst (dOp gNe (dB gRepr (aCons (dCall (okOf m_read_value) (aCons (dVar 3) (aCons (dVar 7) aNil))) aNil)) (dB gRepr (aCons (dVar 6) aNil)))))
  (sRet (dC (.bool false)))
  sNil))
  (sSeq (sIf (dNotT (dTst (dCallMT 0 qt__law_texts_right m__law_texts_right 2 (aCons (dVar 3) (aCons (dOp gIx (dVar 5) (dCallM m__law_take 2 (aCons (dB gLen (aCons (dVar 5) aNil)) aNil))) aNil)))))
  (sRet (dC (.bool false)))
  sNil)
  (sIf (dNotT (dTst (dCallMT 1 qt__law_refused_right m__law_refused_right 2 (aCons (dVar 3) (aCons (dOp gIx (dVar 4) (dCallM m__law_take 2 (aCons (dB gLen (aCons (dVar 4) aNil)) aNil))) aNil)))))
  (sRet (dC (.bool false)))
  sNil))))))))))
  (sRet (dC (.bool true))))
def m_law : List PyData → Option PyData := fnP ["_law_script", "_law_k", "_law_pot_here", "_law_kind_here", "_law_values", "_law_texts", "_law_value_here", "_law_text", "~tab0", "~tab1"] 1 b_law
theorem ok_law (T : Tx K mg) (Fx : ExF K mg nm_ ts_) {Tb_0 Tb_1 : Addr} (c__law_pot : Cal P w K mg base 1 "_law_pot" ["_law_script", "_law_k"] (spF K m__law_pot)) (c__law_kind : Cal P w K mg base 4 "_law_kind" ["_law_pot_here"] (spM K m__law_kind)) (c__law_all_values : Cal P w K mg base 2 "_law_all_values" ["_law_pot_here", "_law_kind_here"] (spM K m__law_all_values)) (c__law_written : Cal P w K mg base 1 "_law_written" ["_law_value_here"] (spP K m__law_written)) (c_read_value : CalX P w K mg base 6 "read_value" ["kind", "text"] (spX K mg m_read_value)) (c_value_text : CalX P w K mg base 6 "value_text" ["kind", "value"] (spX K mg m_value_text)) (c__law_texts_right : CalG P w K mg base 9 "_law_texts_right" ["_law_pot_here", "_law_kind_here", "_law_text"] (spMT K Tb_0 qt__law_texts_right m__law_texts_right)) (c__law_take : Cal P w K mg base 1 "_law_take" ["_law_pot_here", "_law_many"] (spM K m__law_take)) (c__law_refused_right : Cal P w K mg base 9 "_law_refused_right" ["_law_pot_here", "_law_kind_here", "_law_value_here"] (spMT K Tb_1 qt__law_refused_right m__law_refused_right)) (f c : Addr) (A : Around) (outer : List Env) (s : Shared) (H : Hp) (E : XK) (Z : Par) (hr : Room 10 (A.deeper (envOfC "law" (defScope s_law) s.heap.objs.size f (.ref c)))) (cg : CG (cxOf CX0 P w K mg base ["_law_script", "_law_k", "_law_pot_here", "_law_kind_here", "_law_values", "_law_texts", "_law_value_here", "_law_text", "~tab0", "~tab1"] "law" (defScope s_law) f (.ref c) A outer s H E).nox) (hZ_0 : Z.p[0]? = some Tb_0) (hZ_1 : Z.p[1]? = some Tb_1) : PSs (cxOf CX0 P w K mg base ["_law_script", "_law_k", "_law_pot_here", "_law_kind_here", "_law_values", "_law_texts", "_law_value_here", "_law_text", "~tab0", "~tab1"] "law" (defScope s_law) f (.ref c) A outer s H E).nox (defBody s_law) (lfS K Z b_law) := by
  unfold b_law
  exact (scons (sfor PassesOwn.never rfl (pir1 (by rfl) T.b_range (dcb (call_max2 rfl) ok_max2 (by rfl) T.b_max (by decide +kernel) (dac di (dac (dcb (call_min2 rfl) ok_min2 (by rfl) T.b_min (by decide +kernel) (dac di (dac (dcb call_len ok_len (by rfl) T.b_len boot_len (dac (dv 0) danil)) danil))) danil)))) (pg_name (i := 1) sc_law.nd rfl (by first | exact .inl rfl | exact .inr rfl)) tgn
  (scons (sown (i := 2) sc_law.nd rfl (by first | exact .inl rfl | exact .inr rfl) (fcl c__law_pot hr (by decide) (by rfl) (dac (dv 0) (dac (dv 1) danil))))
  (scons (sset (i := 3) sc_law.nd rfl (by first | exact .inl rfl | exact .inr rfl) (dclM 2 c__law_kind hr (by decide) (by rfl) (pv 2) danil))
  (scons (sset (i := 4) sc_law.nd rfl (by first | exact .inl rfl | exact .inr rfl) (dclM 2 c__law_all_values hr (by decide) (by rfl) (pv 2) (dac (dv 3) danil)))
  (sfgt (j := 6) (scons (ssetLc (i := 5) rfl sc_law.nd rfl rfl (sw_true rfl rfl rfl (by decide +kernel)) (pia (dv 4)) (blkOk_by (own := [("_law_value_here", 6)]) (N := ["_law_script", "_law_k", "_law_pot_here", "_law_kind_here", "_law_values", "_law_texts", "_law_value_here", "_law_text", "~tab0", "~tab1"]) (sc := defScope s_law) (by decide +kernel)) (fun _ _ _ _ _ => pg_name (i := 6) sc_law.nd rfl (by first | exact .inl rfl | exact .inr rfl)) (fun _ _ _ _ _ _ => tynil) (fun _ _ _ _ _ _ => (dcl c__law_written hr (by decide) (by rfl) (dac (dv 6) danil))))
  (scons (sif (dtcmp (op_neA hr.units) ok_ne (dlensetL rfl (by rfl) T.b_len (by rfl) T.b_set (dv 5)) (dcb call_len ok_len (by rfl) T.b_len boot_len (dac (dv 5) danil)) (nomark _))
  (sone (sret db))
  snil)
  (scons (sforG PassesOwn.never rfl (pizip (by rfl) T.b_zip (dv 4) (dv 5)) (pg_tup rfl (pgs_cons (pg_name (i := 6) sc_law.nd rfl (by first | exact .inl rfl | exact .inr rfl)) (pgs_cons (pg_name (i := 7) sc_law.nd rfl (by first | exact .inl rfl | exact .inr rfl)) pgs_nil))) (tgtP rfl (tgscons tgn (tgscons tgn tgsnil)))
  (sone (sif (PW.pt (dtor (dtcmp (op_neA hr.units) ok_ne (dclX c_value_text hr (by decide) (by rfl) (dac (dv 3) (dac (dv 6) danil))) (dv 7) (nomark _)) (pw_or1 (dtcmp (op_neA hr.units) ok_ne (dcb (call_repr cg) ok_repr (by rfl) T.b_repr (by decide +kernel) (dac (dclX c_read_value hr (by decide) (by rfl) (dac (dv 3) (dac (dv 7) danil))) danil)) (dcb (call_repr cg) ok_repr (by rfl) T.b_repr (by decide +kernel) (dac (dv 6) danil)) (nomark _)))))
  (sone (sret db))
  snil)))
  (scons (sif (dtnot (dt (dclMTG 2 c__law_texts_right hZ_0 cg hr (by decide) (by rfl) (pv 2) (dac (dv 3) (dac (dix ix_seq ok_ix (dv 5) (dclM 2 c__law_take hr (by decide) (by rfl) (pv 2) (dac (dcb call_len ok_len (by rfl) T.b_len boot_len (dac (dv 5) danil)) danil))) danil)))))
  (sone (sret db))
  snil)
  (sone (sif (dtnot (dt (dclMT 2 c__law_refused_right hZ_1 hr (by decide) (by rfl) (pv 2) (dac (dv 3) (dac (dix ix_seq ok_ix (dv 4) (dclM 2 c__law_take hr (by decide) (by rfl) (pv 2) (dac (dcb call_len ok_len (by rfl) T.b_len boot_len (dac (dv 4) danil)) danil))) danil)))))
  (sone (sret db))
  snil)))))))))))
  (sone (sret db)))
end
end K04

namespace K04
open PySem PySem.Spec PyProof.Rows L2 Dl
def fn_ : List He.DefD := [dOf "_law_pot" s__law_pot, dOf "_law_take" s__law_take, dOf "_law_number" s__law_number, dOf "_law_words" s__law_words, dOf "_law_name" s__law_name, dOf "_law_options" s__law_options, dOf "_law_kind" s__law_kind, dOf "_law_all_values" s__law_all_values, dOf "_law_written" s__law_written, dOf "_law_figures" s__law_figures, dOf "_law_is_within" s__law_is_within, dOf "_law_is_value" s__law_is_value, dOf "_law_due" s__law_due, dOf "_law_text_bent" s__law_text_bent, dOf "_law_word" s__law_word, dOf "is_whole" s_is_whole, dOf "is_number" s_is_number, dOf "is_name" s_is_name, dOf "are_names" s_are_names, dOf "is_kind" s_is_kind, dOf "check_kind" s_check_kind, dOf "is_value" s_is_value, dOf "value_text" s_value_text, dOf "number_in" s_number_in, dOf "_value_in" s__value_in, dOf "read_value" s_read_value, dOf "_law_texts_right" s__law_texts_right, dOf "_law_refused_right" s__law_refused_right, dOf "law" s_law]
def fa_ : List He.Fa := [.glo "_law_pot", .glo "_law_take", .glo "_law_number", .glo "_law_words", .glo "_law_name", .glo "_law_options", .glo "_law_kind", .glo "_law_all_values", .glo "_law_written", .glo "_law_figures", .glo "_law_is_within", .glo "_law_is_value", .glo "_law_due", .glo "_law_text_bent", .glo "_law_word", .glo "is_whole", .glo "is_number", .glo "is_name", .glo "are_names", .glo "is_kind", .glo "check_kind", .glo "is_value", .glo "value_text", .glo "number_in", .glo "_value_in", .glo "read_value", .glo "_law_texts_right", .glo "_law_refused_right", .glo "law", .free "ValueError", .free "abs", .free "all", .free "bool", .free "int", .free "isinstance", .free "len", .free "list", .free "max", .free "min", .free "range", .free "repr", .free "set", .free "sorted", .free "str", .free "tuple", .free "zip"]
def cs_ : List (Str × PyData) := [("FIGURES", d_FIGURES), ("LETTERS", d_LETTERS), ("LONGEST_NAME", d_LONGEST_NAME), ("MOST_FIGURES", d_MOST_FIGURES), ("MOST_OPTIONS", d_MOST_OPTIONS), ("TOP_NUMBER", d_TOP_NUMBER), ("WORDS", d_WORDS)]
def names_0 : List Str := [("AskError" : Str), ("NoKind" : Str), ("NoValue" : Str), ("NoCondition" : Str), ("NoKey" : Str), ("TooWide" : Str), ("Stuck" : Str), ("NoBook" : Str), ("Clash" : Str), ("Full" : Str), ("NoNames" : Str), ("NoEntry" : Str), ("NoCheck" : Str), ("Twice" : Str), ("NoLines" : Str), ("NoRound" : Str), ("NoWeights" : Str), ("NoTable" : Str), ("NoFits" : Str), ("NoTotals" : Str), ("NoCounts" : Str), ("NoPlaces" : Str), ("NoPlace" : Str), ("NoText" : Str), ("NoLine" : Str), ("NoForm" : Str), ("CannotGo" : Str), ("NoRecord" : Str), ("NoFit" : Str), ("WORDS" : Str), ("LETTERS" : Str), ("FIGURES" : Str), ("LONGEST_NAME" : Str), ("MOST_OPTIONS" : Str), ("TOP_NUMBER" : Str), ("MOST_FIGURES" : Str), ("is_name" : Str), ("are_names" : Str), ("is_whole" : Str), ("is_number" : Str)]
def names_1 : List Str := [("number_in" : Str), ("is_kind" : Str), ("check_kind" : Str), ("is_value" : Str), ("value_text" : Str), ("read_value" : Str), ("_value_in" : Str), ("_law_pot" : Str), ("_law_take" : Str), ("_law_words" : Str), ("_law_name" : Str), ("_law_is_name" : Str), ("_law_is_within" : Str), ("_law_number" : Str), ("_law_options" : Str), ("_law_kind" : Str), ("_law_is_kind" : Str), ("_law_odd" : Str), ("_law_bent" : Str), ("_law_text_bent" : Str), ("_law_figures" : Str), ("_law_value" : Str), ("_law_is_value" : Str), ("_law_word" : Str), ("_law_all_values" : Str), ("_law_written" : Str), ("_law_due" : Str), ("_law_texts_right" : Str), ("_law_refused_right" : Str)]
def names_ : List Str := names_0 ++ names_1
abbrev R_ : PySem.W.OpenRow := PySem.W.OpenLaw.row PySem.Challenge.rw_askround_k04_whole_values_written
def bs_ : List (Str × String) := []
def dds_ : List He.Defn := [("_law_texts_right", none), ("_law_refused_right", none)]
def qs_ : List Str := [qt__law_texts_right, qt__law_refused_right]
abbrev hk_ : PySem.W.Hook := He.hookX 5 fa_ fn_ [] dds_ (exBm dds_ cs_ bs_ nm_ ts_)
def ob_ (s : PySem.W.SharedT) : He.AlX := He.obsX 5 fa_ fn_ [] dds_ (exBm dds_ cs_ bs_ nm_ ts_) (HandSHeadRun.getT s)
theorem ob_eq (s : PySem.W.SharedT) : ob_ s = hk_.obs s.abs := He.obsX_eq (HandSHeadRun.getT_eq s)
theorem run_ (w : World) : HandSHeadRun.RunEq R_ (PySem.W.view R_.prog [72]) hk_ ob_ 30000 names_ w := by
  intro os
  kernel_rfl
theorem facts_ (w : World) (mg : Str → Option Value) (h : Heap) (K : PySem.W.Frag) (X : K.In h) (G : h.Ns mainGlobals mg) (c_ : He.SaysD fa_ fn_ K) (cc : cs_.all (gcB K) = true) (bb : bs_.all (bnB K) = true) (Fx : ExF K mg nm_ ts_) : ∃ fd : FuncData, mg "law" = some (.ref (He.fAd K lawD)) ∧ Fun K "law" "law" s_law (He.fAd K lawD) fd ∧ (∀ (s : Shared) (u : Value), BindsTo s fd ⟨[u], []⟩ [("_law_script", u)]) ∧
      ∀ (base : Heap) (c : Addr) (s : Shared) (H : Hp) (Z : Par), Mod K mg base → Room 10 (callerA.deeper (envOfC "law" (defScope s_law) s.heap.objs.size (He.fAd K lawD) (.ref c))) → CG (cxOf CX0 R_.prog w K mg base ["_law_script", "_law_k", "_law_pot_here", "_law_kind_here", "_law_values", "_law_texts", "_law_value_here", "_law_text", "~tab0", "~tab1"] "law" (defScope s_law) (He.fAd K lawD) (.ref c) callerA [] s H E0).nox → (∀ d ∈ dds_, LamX.TabB base mg (He.codeOf K d) (He.cT K d).2) → Z.p = dds_.map (fun d => (He.cT K d).2) →
        PSs (cxOf CX0 R_.prog w K mg base ["_law_script", "_law_k", "_law_pot_here", "_law_kind_here", "_law_values", "_law_texts", "_law_value_here", "_law_text", "~tab0", "~tab1"] "law" (defScope s_law) (He.fAd K lawD) (.ref c) callerA [] s H E0).nox (defBody s_law) (lfS K Z b_law) := by
  have T : Tx K mg := ⟨free_of X G c_ 29, free_of X G c_ 30, free_of X G c_ 31, free_of X G c_ 32, free_of X G c_ 33, free_of X G c_ 34, free_of X G c_ 35, free_of X G c_ 36, free_of X G c_ 37, free_of X G c_ 38, free_of X G c_ 39, free_of X G c_ 40, free_of X G c_ 41, free_of X G c_ 42, free_of X G c_ 43, free_of X G c_ 44, free_of X G c_ 45, const_of X G cc 0, const_of X G cc 1, const_of X G cc 2, const_of X G cc 3, const_of X G cc 4, const_of X G cc 5, const_of X G cc 6⟩
  have F__law_pot : Std K mg "_law_pot" s__law_pot ["_law_script", "_law_k"] := std_of X G c_ 0 0 rfl rfl (fun _ _ _ _ _ _ us hl => match us, hl with | [_, _], _ => rfl)
  have F__law_take : Std K mg "_law_take" s__law_take ["_law_pot_here", "_law_many"] := std_of X G c_ 1 1 rfl rfl (fun _ _ _ _ _ _ us hl => match us, hl with | [_, _], _ => rfl)
  have F__law_number : Std K mg "_law_number" s__law_number ["_law_pot_here"] := std_of X G c_ 2 2 rfl rfl (fun _ _ _ _ _ _ us hl => match us, hl with | [_], _ => rfl)
  have F__law_words : Std K mg "_law_words" s__law_words [] := std_of X G c_ 3 3 rfl rfl (fun _ _ _ _ _ _ us hl => match us, hl with | [], _ => rfl)
  have F__law_name : Std K mg "_law_name" s__law_name ["_law_pot_here"] := std_of X G c_ 4 4 rfl rfl (fun _ _ _ _ _ _ us hl => match us, hl with | [_], _ => rfl)
  have F__law_options : Std K mg "_law_options" s__law_options ["_law_pot_here"] := std_of X G c_ 5 5 rfl rfl (fun _ _ _ _ _ _ us hl => match us, hl with | [_], _ => rfl)
  have F__law_kind : Std K mg "_law_kind" s__law_kind ["_law_pot_here"] := std_of X G c_ 6 6 rfl rfl (fun _ _ _ _ _ _ us hl => match us, hl with | [_], _ => rfl)
  have F__law_all_values : Std K mg "_law_all_values" s__law_all_values ["_law_pot_here", "_law_kind_here"] := std_of X G c_ 7 7 rfl rfl (fun _ _ _ _ _ _ us hl => match us, hl with | [_, _], _ => rfl)
  have F__law_written : Std K mg "_law_written" s__law_written ["_law_value_here"] := std_of X G c_ 8 8 rfl rfl (fun _ _ _ _ _ _ us hl => match us, hl with | [_], _ => rfl)
  have F__law_figures : Std K mg "_law_figures" s__law_figures ["_law_word_here"] := std_of X G c_ 9 9 rfl rfl (fun _ _ _ _ _ _ us hl => match us, hl with | [_], _ => rfl)
  have F__law_is_within : Std K mg "_law_is_within" s__law_is_within ["_law_thing", "_law_low", "_law_high"] := std_of X G c_ 10 10 rfl rfl (fun _ _ _ _ _ _ us hl => match us, hl with | [_, _, _], _ => rfl)
  have F__law_is_value : Std K mg "_law_is_value" s__law_is_value ["_law_kind_here", "_law_thing"] := std_of X G c_ 11 11 rfl rfl (fun _ _ _ _ _ _ us hl => match us, hl with | [_, _], _ => rfl)
  have F__law_due : Std K mg "_law_due" s__law_due ["_law_kind_here", "_law_text"] := std_of X G c_ 12 12 rfl rfl (fun _ _ _ _ _ _ us hl => match us, hl with | [_, _], _ => rfl)
  have F__law_text_bent : Std K mg "_law_text_bent" s__law_text_bent ["_law_pot_here", "_law_text"] := std_of X G c_ 13 13 rfl rfl (fun _ _ _ _ _ _ us hl => match us, hl with | [_, _], _ => rfl)
  have F__law_word : Std K mg "_law_word" s__law_word ["_law_call"] := std_of X G c_ 14 14 rfl rfl (fun _ _ _ _ _ _ us hl => match us, hl with | [_], _ => rfl)
  have F_is_whole : Std K mg "is_whole" s_is_whole ["thing"] := std_of X G c_ 15 15 rfl rfl (fun _ _ _ _ _ _ us hl => match us, hl with | [_], _ => rfl)
  have F_is_number : Std K mg "is_number" s_is_number ["thing"] := std_of X G c_ 16 16 rfl rfl (fun _ _ _ _ _ _ us hl => match us, hl with | [_], _ => rfl)
  have F_is_name : Std K mg "is_name" s_is_name ["thing"] := std_of X G c_ 17 17 rfl rfl (fun _ _ _ _ _ _ us hl => match us, hl with | [_], _ => rfl)
  have F_are_names : Std K mg "are_names" s_are_names ["thing", "least", "most"] := std_of X G c_ 18 18 rfl rfl (fun _ _ _ _ _ _ us hl => match us, hl with | [_, _, _], _ => rfl)
  have F_is_kind : Std K mg "is_kind" s_is_kind ["thing"] := std_of X G c_ 19 19 rfl rfl (fun _ _ _ _ _ _ us hl => match us, hl with | [_], _ => rfl)
  have F_check_kind : Std K mg "check_kind" s_check_kind ["thing"] := std_of X G c_ 20 20 rfl rfl (fun _ _ _ _ _ _ us hl => match us, hl with | [_], _ => rfl)
  have F_is_value : Std K mg "is_value" s_is_value ["kind", "thing"] := std_of X G c_ 21 21 rfl rfl (fun _ _ _ _ _ _ us hl => match us, hl with | [_, _], _ => rfl)
  have F_value_text : Std K mg "value_text" s_value_text ["kind", "value"] := std_of X G c_ 22 22 rfl rfl (fun _ _ _ _ _ _ us hl => match us, hl with | [_, _], _ => rfl)
  have F_number_in : Std K mg "number_in" s_number_in ["text"] := std_of X G c_ 23 23 rfl rfl (fun _ _ _ _ _ _ us hl => match us, hl with | [_], _ => rfl)
  have F__value_in : Std K mg "_value_in" s__value_in ["word", "text"] := std_of X G c_ 24 24 rfl rfl (fun _ _ _ _ _ _ us hl => match us, hl with | [_, _], _ => rfl)
  have F_read_value : Std K mg "read_value" s_read_value ["kind", "text"] := std_of X G c_ 25 25 rfl rfl (fun _ _ _ _ _ _ us hl => match us, hl with | [_, _], _ => rfl)
  have F__law_texts_right : Std K mg "_law_texts_right" s__law_texts_right ["_law_pot_here", "_law_kind_here", "_law_text"] := std_of X G c_ 26 26 rfl rfl (fun _ _ _ _ _ _ us hl => match us, hl with | [_, _, _], _ => rfl)
  have F__law_refused_right : Std K mg "_law_refused_right" s__law_refused_right ["_law_pot_here", "_law_kind_here", "_law_value_here"] := std_of X G c_ 27 27 rfl rfl (fun _ _ _ _ _ _ us hl => match us, hl with | [_, _, _], _ => rfl)
  have F_law : Std K mg "law" s_law ["_law_script"] := std_of X G c_ 28 28 rfl rfl (fun _ _ _ _ _ _ us hl => match us, hl with | [_], _ => rfl)
  obtain ⟨f, fd, F, m, b⟩ := F_law
  obtain rfl : f = He.fAd K lawD := Value.ref.inj (Option.some.inj (m.symm.trans (He.glo_ok X G (c_.fact 28 rfl))))
  have bt : ∀ (s : Shared) (u : Value), BindsTo s fd ⟨[u], []⟩ [("_law_script", u)] := fun s u => by
    obtain ⟨⟨_, _, _, _, _, _, _, _, _, e, _⟩, _⟩ := F
    subst e
    exact .of_eq rfl
  refine ⟨fd, m, F, bt, fun base c s H Z _ hr cg TBs hZ => ?_⟩
  have hZ_0 : Z.p[0]? = some (He.cT K ("_law_texts_right", none)).2 := by rw [hZ]; rfl
  have TB_0 := TBs ("_law_texts_right", none) (by decide)
  have hZ_1 : Z.p[1]? = some (He.cT K ("_law_refused_right", none)).2 := by rw [hZ]; rfl
  have TB_1 := TBs ("_law_refused_right", none) (by decide)
  have c__law_pot := ok__law_pot (P := R_.prog) (w := w) (base := base) F__law_pot  T  
  have c__law_take := ok__law_take (P := R_.prog) (w := w) (base := base) F__law_take  T  
  have c__law_number := ok__law_number (P := R_.prog) (w := w) (base := base) F__law_number  T  c__law_take
  have c__law_words := ok__law_words (P := R_.prog) (w := w) (base := base) F__law_words  T  
  have c__law_name := ok__law_name (P := R_.prog) (w := w) (base := base) F__law_name  T  c__law_take c__law_words
  have c__law_options := ok__law_options (P := R_.prog) (w := w) (base := base) F__law_options  T  c__law_take c__law_name
  have c__law_kind := ok__law_kind (P := R_.prog) (w := w) (base := base) F__law_kind  T  c__law_take c__law_options c__law_number
  have c__law_all_values := ok__law_all_values (P := R_.prog) (w := w) (base := base) F__law_all_values  T  c__law_take
  have c__law_written := ok__law_written (P := R_.prog) (w := w) (base := base) F__law_written  T  
  have c__law_figures := ok__law_figures (P := R_.prog) (w := w) (base := base) F__law_figures  T  
  have c__law_is_within := ok__law_is_within (P := R_.prog) (w := w) (base := base) F__law_is_within  T  
  have c__law_is_value := ok__law_is_value (P := R_.prog) (w := w) (base := base) F__law_is_value  T  c__law_is_within
  have c__law_due := ok__law_due (P := R_.prog) (w := w) (base := base) F__law_due  T  c__law_figures c__law_is_value
  have c__law_text_bent := ok__law_text_bent (P := R_.prog) (w := w) (base := base) F__law_text_bent  T  c__law_take
  have c_is_whole := ok_is_whole (P := R_.prog) (w := w) (base := base) F_is_whole  T  
  have c_is_number := ok_is_number (P := R_.prog) (w := w) (base := base) F_is_number  T  c_is_whole
  have c_is_name := ok_is_name (P := R_.prog) (w := w) (base := base) F_is_name  T  
  have c_are_names := ok_are_names (P := R_.prog) (w := w) (base := base) F_are_names  T  c_is_name
  have c_is_kind := ok_is_kind (P := R_.prog) (w := w) (base := base) F_is_kind  T  c_are_names c_is_number
  have c_check_kind := ok_check_kind (P := R_.prog) (w := w) (base := base) F_check_kind  T Fx c_is_kind
  have c_is_value := ok_is_value (P := R_.prog) (w := w) (base := base) F_is_value  T  c_check_kind c_is_whole
  have c_value_text := ok_value_text (P := R_.prog) (w := w) (base := base) F_value_text  T Fx c_is_value
  have c_number_in := ok_number_in (P := R_.prog) (w := w) (base := base) F_number_in  T  
  have c__value_in := ok__value_in (P := R_.prog) (w := w) (base := base) F__value_in  T  c_number_in
  have c_read_value := ok_read_value (P := R_.prog) (w := w) (base := base) F_read_value  T Fx c_check_kind c__value_in c_is_value
  have c__law_texts_right := ok__law_texts_right (P := R_.prog) (w := w) (base := base) F__law_texts_right F__law_word T Fx TB_0 (code_at (He.glo_ok X G (c_.fact 26 rfl))) cg.sys c__law_text_bent c__law_due c_read_value c_value_text
  have c__law_refused_right := ok__law_refused_right (P := R_.prog) (w := w) (base := base) F__law_refused_right F__law_word T Fx TB_1 (code_at (He.glo_ok X G (c_.fact 27 rfl))) c__law_take c__law_is_value c_value_text c_read_value c_is_value
  exact ok_law T Fx  c__law_pot c__law_kind c__law_all_values c__law_written c_read_value c_value_text c__law_texts_right c__law_take c__law_refused_right (He.fAd K lawD) c callerA [] s H E0 Z hr cg hZ_0 hZ_1
end K04

namespace K04
open PySem PySem.Spec PyProof.Rows L2 Dl
local macro_rules | `(tactic| decreasing_trivial_pre_omega) => `(tactic| (first | with_reducible refine s_seq ?_ | with_reducible refine s_if ?_ | with_reducible refine s_set ?_ | with_reducible refine s_setIx ?_ | with_reducible refine s_ret ?_ | with_reducible refine s_nil ?_ | with_reducible refine s_own ?_ | with_reducible refine s_par ?_ | with_reducible refine t_tst ?_ | with_reducible refine t_and ?_ | with_reducible refine t_or ?_ | with_reducible refine t_not ?_ | with_reducible refine t_yes ?_ | with_reducible refine e_op ?_ | with_reducible refine e_un ?_ | with_reducible refine e_chain ?_ | with_reducible refine e_b ?_ | with_reducible refine e_c ?_ | with_reducible refine e_l ?_ | with_reducible refine e_tup ?_ | with_reducible refine e_call ?_ | with_reducible refine e_and ?_ | with_reducible refine e_or ?_ | with_reducible refine e_not ?_ | with_reducible refine e_if ?_ | with_reducible refine e_sl ?_ | with_reducible refine o_n ?_ | with_reducible refine o_s ?_ | with_reducible refine a_nil ?_ | with_reducible refine a_cons ?_ | with_reducible refine f_lst ?_ | with_reducible refine f_call ?_ | with_reducible refine f_itA ?_ | with_reducible refine f_r1 ?_ | with_reducible refine r_seq ?_ | with_reducible refine n_add ?_ | with_reducible refine n_sub ?_ | with_reducible refine n_gt ?_ | with_reducible refine n_ge ?_ | with_reducible refine n_lt ?_ | with_reducible refine n_le ?_ | with_reducible refine e_var (by with_unfolding_all rfl) ?_ | with_reducible refine e_ixc (by with_unfolding_all rfl) ?_ | with_reducible refine e_callM (by with_unfolding_all rfl) ?_ | with_reducible refine s_frz (by with_unfolding_all rfl) ?_ | with_reducible refine s_app (by with_unfolding_all rfl) ?_ | refine Or.inl ⟨by first | with_reducible rfl | with_reducible exact Bool.not_false, ?_⟩ | refine Or.inr ⟨by first | with_reducible rfl | with_reducible exact Bool.not_true, ?_⟩ | refine Exists.intro _ (Exists.intro _ ⟨rfl, rfl, gd rfl ?_⟩) | refine Exists.intro _ ⟨rfl, ?_⟩))
local macro_rules | `(tactic| decreasing_trivial) => `(tactic| repeat decreasing_trivial_pre_omega)
/-- a pot of numbers after at most n takings -/
def Pot (n : Nat) (pd : List PyData) : Prop := ∃ a b c : Int, pd = [.int a, .int b, .int c] ∧ 0 ≤ a ∧ a < 10 ^ 600 ∧ 0 ≤ b ∧ b < 2 ^ 61 ∧ 0 ≤ c ∧ c ≤ n
theorem Pot.mono {n m : Nat} {pd : List PyData} (h : Pot n pd) (e : n ≤ m) : Pot m pd := by
  obtain ⟨a, b, c, e1, h1, h2, h3, h4, h5, h6⟩ := h
  exact ⟨a, b, c, e1, h1, h2, h3, h4, h5, by omega⟩
theorem take_ok {n : Nat} {pd : List PyData} {m : Int} (h : Pot n pd) (hn : n < 1000000) (hm : 1 ≤ m) (hM : m ≤ 10000000) :
    Gd (m__law_take pd [.int m]) fun q => ∃ r : Int, q.1 = .int r ∧ 0 ≤ r ∧ r < m ∧ Pot (n + 1) q.2 := by
  obtain ⟨a, b, c, rfl, h1, h2, h3, h4, h5, h6⟩ := h
  unfold m__law_take
  refine m_fnM rfl ?_
  unfold b__law_take
  decreasing_trivial
  by_cases pos : 0 < a
  · refine .inl ⟨decide_eq_true pos, ?_⟩
    decreasing_trivial
    refine n_mod (by omega) fun l1 l2 => ?_
    decreasing_trivial
    refine n_div (by omega) (by omega) ?_
    decreasing_trivial
    have q0 : 0 ≤ a / m := Int.ediv_nonneg h1 (by omega)
    have q1 : a / m ≤ a := Int.ediv_le_self m h1
    exact ⟨l1, l2, a / m, b, c, rfl, q0, Int.lt_of_le_of_lt q1 h2, h3, h4, h5, by omega⟩
  · refine .inr ⟨decide_eq_false pos, ?_⟩
    decreasing_trivial
    have e1 : (1 : Int) ≤ c + 1 ∧ c + 1 ≤ 1000000 := by omega
    refine n_mul 40 (by decide) (by decide) (by omega) (by omega) (by decide) (by decide) ?_
    decreasing_trivial
    refine n_pow (b := 3) 62 (by omega) (by omega) (by decide) (by decide) fun p => ?_
    decreasing_trivial
    refine n_mod (by decide) fun l1 l2 => ?_
    decreasing_trivial
    refine n_mod (by decide) fun l3 l4 => ?_
    decreasing_trivial
    refine n_mul 40 (by decide) (by decide) (by omega) (by omega) (by decide) (by decide) ?_
    decreasing_trivial
    refine n_pow (b := 5) 63 (by omega) (by omega) (by decide) (by decide) fun p => ?_
    decreasing_trivial
    refine n_mod (by decide) fun l1 l2 => ?_
    decreasing_trivial
    refine n_div (by decide) (by decide) ?_
    decreasing_trivial
    refine n_mod (by omega) fun l1 l2 => ?_
    decreasing_trivial
    exact ⟨l1, l2, a, b, c + 1, rfl, h1, h2, h3, h4, by omega, by omega⟩
theorem atI_map {ns : List Int} {k : Nat} (h : k < ns.length) : atI (ns.map PyData.int) (k : Int) = some (.int ns[k]) := by
  unfold atI
  have e : ixN (ns.map PyData.int).length (k : Int) = some k := by
    unfold ixN
    rw [List.length_map]
    split <;> rename_i c
    · simp [h]
    · omega
  rw [e]
  simp [List.getElem?_map, h]
theorem pot_ok {ns : List Int} {k : Nat} (hk : k < 100) : Gd (m__law_pot [.dict [(.none, .list (ns.map .int))], .int k]) fun pd => Pot 0 pd := by
  unfold m__law_pot
  refine m_fnF rfl ?_
  unfold b__law_pot
  have fin : ∀ x : Int, 0 ≤ x → x < 10 ^ 600 → Ge ((fLst (aCons (dOp gMul (dVar 2) (dB gInt1 (aCons (dOp gGe (dVar 2) (dOp gPow (dC (.int 10)) (dC (.int 18)))) aNil))) (aCons (dOp gMod (dOp gPow (dOp gAdd (dOp gAdd (dOp gMod (dVar 2) (dC (.int 2147483629))) (dOp gMul (dC (.int 7919)) (dVar 1))) (dC (.int 1))) (dC (.int 5))) (dC (.int 2305843009213693951))) (aCons (dC (.int 0)) aNil))))
      [.dat (.dict [(.none, .list (ns.map .int))]), .dat (.int k), .dat (.int x)]) fun d _ => Pot 0 d := by
    intro x h0 h1
    decreasing_trivial
    refine n_pow (b := 18) 4 (by decide) (by decide) (by decide) (by decide) fun _ => ?_
    decreasing_trivial
    have up : (10 : Int) ^ 600 < 2 ^ 2000 := by decide +kernel
    have lo := two_pos 2000
    have out : ∀ y : Int, (y = 0 ∨ y = 1) → Gd (gMul (.int x) (.int y)) fun d => ∃ z : Int, d = .int z ∧ 0 ≤ z ∧ z < 10 ^ 600 := fun y hy => by
      refine n_mul 2000 (by omega) (by omega) ?_ ?_ (by decide) (by decide) ?_
      · rcases hy with rfl | rfl <;> omega
      · have : (1 : Int) < 2 ^ 2000 := by decide +kernel
        rcases hy with rfl | rfl <;> omega
      · rcases hy with rfl | rfl
        · exact ⟨0, by rw [Int.mul_zero], by decide, by decide +kernel⟩
        · exact ⟨x, by rw [Int.mul_one], h0, h1⟩
    refine gd (a := .int (if decide ((10 : Int) ^ 18 ≤ x) = true then 1 else 0)) rfl ?_
    refine gd_mono (out _ (by split <;> simp)) fun d hd => ?_
    obtain ⟨z, rfl, z0, z1⟩ := hd
    decreasing_trivial
    refine n_mod (by decide) fun l1 l2 => ?_
    decreasing_trivial
    refine n_mul 40 (by decide) (by decide) (by omega) (by omega) (by decide) (by decide) ?_
    decreasing_trivial
    refine n_pow (b := 5) 40 (by omega) (by omega) (by decide) (by decide) fun _ => ?_
    decreasing_trivial
    refine n_mod (by decide) fun l3 l4 => ?_
    decreasing_trivial
    exact ⟨by show 3 ≤ _; decide, z, _, 0, rfl, z0, z1, l3, by omega, by decide, by decide⟩
  decreasing_trivial
  refine gd (a := .int ((ns.map PyData.int).length : Nat)) rfl ?_
  decreasing_trivial
  by_cases c : k < ns.length
  · refine .inl ⟨decide_eq_true (by rw [List.length_map]; omega), ?_⟩
    decreasing_trivial
    refine gd (atI_map c) ?_
    decreasing_trivial
    refine gd (a := .int (if ns[k] < 0 then -ns[k] else ns[k])) rfl ?_
    decreasing_trivial
    refine n_pow (b := 60) 4 (by decide) (by decide) (by decide) (by decide) fun _ => ?_
    decreasing_trivial
    refine n_pow (b := 10) 200 (by decide +kernel) (by decide +kernel) (by decide) (by decide) fun _ => ?_
    have e : ((10 : Int) ^ 60) ^ 10 = 10 ^ 600 := by decide +kernel
    rw [e]
    refine n_mod (by decide +kernel) fun l1 l2 => ?_
    repeat (first | exact fin _ l1 l2 | decreasing_trivial_pre_omega)
  · refine .inr ⟨decide_eq_false (by rw [List.length_map]; omega), ?_⟩
    repeat (first | exact fin 0 (by decide) (by decide +kernel) | decreasing_trivial_pre_omega)

/-! ### names -/
/-- data as the law draws it: at most k lists or tuples within one another, short texts, numbers that can be written -/
def Fit : Nat → PyData → Prop
  | _, .none => True
  | _, .bool _ => True
  | _, .int i => i.natAbs < 2 ^ 200
  | _, .str x => x.length ≤ 2000 ∧ ∀ c ∈ x.cps.toList, c < 200
  | _, .dict kvs => kvs = []
  | 0, _ => False
  | k + 1, .list ds => ds.length ≤ 20 ∧ ∀ d ∈ ds, Fit k d
  | k + 1, .tuple ds => ds.length ≤ 20 ∧ ∀ d ∈ ds, Fit k d
def words : List PyData := [.str "ask", .str "pick", .str "some", .str "count", .str "if", .str "else", .str "end", .str "part", .str "leave", .str "each", .str "hard", .str "soft", .str "is", .str "has", .str "from", .str "to", .str "not", .str "and", .str "or", .str "any", .str "every"]
def letter (c : Nat) : Bool := decide (97 ≤ c) && decide (c ≤ 122)
def inWords (d : PyData) : Bool := words.any fun z => PyData.eqv z d
def nameB : PyData → Bool
  | .str x => (decide (1 ≤ x.length) && decide (x.length ≤ 8)) && (!inWords (.str x) && x.cps.toList.all letter)
  | _ => false
def letterD : PyData → PyData
  | .str z => .bool (letter (z.cps.getD 0 0))
  | _ => .none
theorem fit_ty {k : Nat} {d : PyData} (h : Fit k d) : ∃ a, tyD d = some a := by
  cases d with
  | dict kvs =>
    have e : kvs = [] := by cases k <;> exact h
    subst e
    exact ⟨_, rfl⟩
  | _ => exact ⟨_, rfl⟩
theorem in_words (x : Str) : gIn false (.str x) (.tuple words) = some (.bool (inWords (.str x))) := rfl
theorem in_words' (x : Str) : gIn false (.str x) (.list words) = some (.bool (inWords (.str x))) := rfl
theorem letters_range : (("abcdefghijklmnopqrstuvwxyz" : Str)).cps.toList = List.range' 97 26 := by decide +kernel
theorem in_letters (c : Nat) : gIn false (.str ⟨#[c]⟩) d_LETTERS = some (.bool (letter c)) := by
  have e : decide (c ∈ (("abcdefghijklmnopqrstuvwxyz" : Str)).cps.toList) = letter c := by
    rw [letters_range]
    unfold letter
    rw [← Bool.decide_and]
    refine decide_eq_decide.mpr ?_
    rw [List.mem_range'_1]
    omega
  rw [← e]
  rfl
theorem truths_map' : ∀ bs : List Bool, truths (bs.map .bool) = some bs
  | [] => rfl
  | b :: r => by rw [List.map_cons, truths, truths_map' r]; rfl
theorem is_name_ok {k : Nat} {d : PyData} (h : Fit k d) : Gd (m_is_name [d]) fun r => r = .bool (nameB d) := by
  unfold m_is_name
  refine m_fnP rfl ?_
  unfold b_is_name
  decreasing_trivial
  obtain ⟨a, ha⟩ := fit_ty h
  cases d with
  | str x =>
    have hx : x.length ≤ 2000 := by cases k <;> exact h.1
    refine gd (a := .bool true) rfl ?_
    decreasing_trivial
    have len : gLen [.str x] = some (.int (x.length : Nat)) := by
      unfold gLen
      exact if_pos (Nat.le_trans hx (by decide))
    refine gd len ?_
    decreasing_trivial
    have fin : ∀ s : Sl, s = [.dat (.str x), .no] → 1 ≤ x.length → x.length ≤ 8 → inWords (.str x) = false → Gs (sRet (dB gAll (aCons (dL (fLc (itA (dVar 0)) 1 tYesD (dOp (gIn false) (dVar 1) (dC d_LETTERS)))) aNil)) s) (fun _ => PyData.none = .bool (nameB (.str x))) fun d _ => d = .bool (nameB (.str x)) := by
      intro s hs l1 l2 nw
      subst hs
      decreasing_trivial
      refine f_lc_pure (fun _ => true) letterD ?_
      decreasing_trivial
      refine .inr ⟨x, rfl, rfl, ?_, fun d hd => ?_, ?_⟩
      · unfold Dl.signs
        rw [List.length_map]
        have : x.cps.toList.length = x.length := by rw [Array.length_toList]; rfl
        rw [this]
        exact Nat.lt_of_le_of_lt hx (by decide)
      · unfold Dl.signs at hd
        obtain ⟨c, hc, rfl⟩ := List.mem_map.mp hd
        refine ⟨?_, fun _ => ?_⟩
        · decreasing_trivial
          exact ⟨rfl, rfl⟩
        · decreasing_trivial
          refine gd (in_letters c) ?_
          exact ⟨rfl, rfl⟩
      · decreasing_trivial
        have e : List.map letterD (List.filter (fun _ => true) (Dl.signs x)) = (x.cps.toList.map letter).map .bool := by
          unfold Dl.signs
          rw [List.filter_eq_self.mpr (fun _ _ => rfl), List.map_map, List.map_map]
          rfl
        rw [e]
        refine gd (a := .bool (x.cps.toList.all letter)) ?_ ?_
        · show Option.map _ (truths _) = _
          rw [truths_map']
          simp [List.all_map]
        · unfold nameB
          simp [l1, l2, nw]
    by_cases l1 : 1 ≤ x.length
    · refine .inl ⟨by simp; omega, ?_⟩
      decreasing_trivial
      by_cases l2 : x.length ≤ 8
      · refine .inr ⟨by simp; omega, ?_⟩
        decreasing_trivial
        refine gd (in_words x) ?_
        decreasing_trivial
        cases nw : inWords (.str x) with
        | true =>
          decreasing_trivial
          unfold nameB
          simp [nw]
        | false =>
          repeat (first | exact fin _ rfl l1 l2 nw | decreasing_trivial_pre_omega)
      · refine .inl ⟨by simp; omega, ?_⟩
        decreasing_trivial
        unfold nameB
        simp [l2]
    · refine .inr ⟨by simp; omega, ?_⟩
      decreasing_trivial
      unfold nameB
      simp [l1]
  | dict kvs =>
    have e : kvs = [] := by cases k <;> exact h
    subst e
    refine gd (a := .bool false) rfl ?_
    decreasing_trivial
    rfl
  | _ =>
    refine gd (a := .bool false) rfl ?_
    decreasing_trivial
    rfl

theorem words_ok : Gd (m__law_words []) fun r => r = .list words := by
  unfold m__law_words
  refine m_fnP rfl ?_
  unfold b__law_words
  decreasing_trivial
  exact ⟨by decide, rfl⟩
def oddD : PyData → Bool
  | .str z => !letter (z.cps.getD 0 0)
  | _ => false
theorem one_lt (a b : Nat) : ([a] < [b]) ↔ a < b := by simp [List.cons_lt_cons_iff]
theorem le_a (c : Nat) : gLe (.str "a") (.str ⟨#[c]⟩) = some (.bool (decide (97 ≤ c))) := by
  have e : (!decide ([c] < [97])) = decide (97 ≤ c) := by
    rw [← decide_not]
    exact decide_eq_decide.mpr ⟨fun q => by rw [one_lt] at q; omega, fun q => by rw [one_lt]; omega⟩
  rw [← e]
  rfl
theorem le_z (c : Nat) : gLe (.str ⟨#[c]⟩) (.str "z") = some (.bool (decide (c ≤ 122))) := by
  have e : (!decide ([122] < [c])) = decide (c ≤ 122) := by
    rw [← decide_not]
    exact decide_eq_decide.mpr ⟨fun q => by rw [one_lt] at q; omega, fun q => by rw [one_lt]; omega⟩
  rw [← e]
  rfl
theorem signs_eq (x : Str) : Dl.signs x = x.cps.toList.map fun c => .str ⟨#[c]⟩ := rfl
theorem sign_ok {c : Nat} (h : c < 200) : PyData.strOk ⟨#[c]⟩ = true := by
  unfold PyData.strOk
  simp
  omega
theorem signs_noDct : ∀ cs : List Nat, noDcts (cs.map fun c => PyData.str ⟨#[c]⟩) = true
  | [] => rfl
  | c :: r => by rw [List.map_cons, noDcts, signs_noDct r]; rfl
theorem signs_lay : ∀ cs : List Nat, (∀ c ∈ cs, c < 200) → PyData.canLayAll0 (cs.map fun c => PyData.str ⟨#[c]⟩) = true
  | [], _ => rfl
  | c :: r, h => by
    rw [List.map_cons, PyData.canLayAll0, signs_lay r fun d hd => h d (List.mem_cons_of_mem _ hd)]
    simp [PyData.canLay0, sign_ok (h c List.mem_cons_self)]
theorem signs_depth : ∀ cs : List Nat, PyData.depthAll (cs.map fun c => PyData.str ⟨#[c]⟩) ≤ 1
  | [] => by simp [PyData.depthAll]
  | c :: r => by
    rw [List.map_cons, PyData.depthAll]
    have := signs_depth r
    simp [PyData.depth]
    omega
theorem eq_none_left (cs : List Nat) (h : ∀ c ∈ cs, c < 200) : gEq (.list (cs.map fun c => .str ⟨#[c]⟩)) (.list []) = some (.bool cs.isEmpty) := by
  have d := signs_depth cs
  have sh : SeqAt.shaped (.list (cs.map fun c => .str ⟨#[c]⟩)) = true := by
    unfold SeqAt.shaped
    rw [PyData.canLay0, signs_lay cs h, PyData.depth, Bool.true_and]
    exact decide_eq_true (by omega)
  have e : PyData.eqv (.list (cs.map fun c => .str ⟨#[c]⟩)) (.list []) = cs.isEmpty := by
    cases cs <;> rfl
  unfold gEq
  rw [if_neg (by simp [isStrD]), if_pos ⟨⟨by simp only [noDct]; exact signs_noDct cs, rfl⟩, sh, by decide⟩, e]

/-! ### whole numbers -/
def wholeB (lo hi : Int) : PyData → Bool
  | .int i => decide (lo ≤ i) && decide (i ≤ hi)
  | _ => false
theorem is_number_ok {k : Nat} {d : PyData} (h : Fit k d) : Gd (m_is_number [d]) fun r => r = .bool (wholeB 0 1000000 d) := by
  unfold m_is_number
  refine m_fnP rfl ?_
  unfold b_is_number
  decreasing_trivial
  have whole : Gd (m_is_whole [d]) fun r => r = .bool (match d with | .int _ => true | _ => false) := by
    unfold m_is_whole
    refine m_fnP rfl ?_
    unfold b_is_whole
    decreasing_trivial
    cases d with
    | int i =>
      refine gd (a := .bool true) rfl ?_
      decreasing_trivial
      refine gd (a := .bool false) rfl ?_
      decreasing_trivial
      rfl
    | bool b =>
      refine gd (a := .bool true) rfl ?_
      decreasing_trivial
      refine gd (a := .bool true) rfl ?_
      decreasing_trivial
      rfl
    | dict kvs =>
      have e : kvs = [] := by cases k <;> exact h
      subst e
      refine gd (a := .bool false) rfl ?_
      decreasing_trivial
      rfl
    | _ =>
      refine gd (a := .bool false) rfl ?_
      decreasing_trivial
      rfl
  refine gd_mono whole fun r hr => ?_
  subst hr
  cases d with
  | int i =>
    decreasing_trivial
    by_cases l : 0 ≤ i
    · refine .inl ⟨by rw [decide_eq_true l], ?_⟩
      decreasing_trivial
      unfold wholeB
      simp [l]
    · refine .inr ⟨by rw [decide_eq_false l], ?_⟩
      decreasing_trivial
      unfold wholeB
      simp [l]
  | _ =>
    decreasing_trivial
    rfl
theorem within_ok {k : Nat} {d : PyData} (h : Fit k d) (lo hi : Int) : Gd (m__law_is_within [d, .int lo, .int hi]) fun r => r = .bool (wholeB lo hi d) := by
  unfold m__law_is_within
  refine m_fnP rfl ?_
  unfold b__law_is_within
  decreasing_trivial
  cases d with
  | int i =>
    refine gd (a := .bool true) rfl ?_
    decreasing_trivial
    refine gd (a := .bool false) rfl ?_
    decreasing_trivial
    by_cases l : lo ≤ i
    · refine .inl ⟨by rw [decide_eq_true l], ?_⟩
      decreasing_trivial
      unfold wholeB
      simp [l]
    · refine .inr ⟨by rw [decide_eq_false l], ?_⟩
      decreasing_trivial
      unfold wholeB
      simp [l]
  | bool b =>
    refine gd (a := .bool true) rfl ?_
    decreasing_trivial
    refine gd (a := .bool true) rfl ?_
    decreasing_trivial
    rfl
  | dict kvs =>
    have e : kvs = [] := by cases k <;> exact h
    subst e
    refine gd (a := .bool false) rfl ?_
    decreasing_trivial
    rfl
  | _ =>
    refine gd (a := .bool false) rfl ?_
    decreasing_trivial
    rfl

/-! ### kinds -/
def inTwo (d : PyData) : Bool := [PyData.str "pick", .str "some"].any fun z => PyData.eqv z d
def setB (ds : List PyData) : Bool := match strsS ds with
  | some zs => decide ((unl zs zs.length : Int) = zs.length)
  | none => false
def namesB : PyData → Bool
  | .tuple ds => (decide (1 ≤ ds.length) && decide (ds.length ≤ 6)) && (ds.all nameB && setB ds)
  | _ => false
def leB : PyData → PyData → Bool
  | .int i, .int j => decide (i ≤ j)
  | _, _ => false
def kindB : PyData → Bool
  | .tuple [a, b] => inTwo a && namesB b
  | .tuple [a, lo, hi] => PyData.eqv a (.str "count") && (wholeB 0 1000000 lo && (wholeB 0 1000000 hi && leB lo hi))
  | _ => false
theorem in_two {k : Nat} {a : PyData} (h : Fit k a) : gIn false a (.tuple [.str "pick", .str "some"]) = some (.bool (inTwo a)) := by
  cases a with
  | dict kvs =>
    have e : kvs = [] := by cases k <;> exact h
    subst e
    rfl
  | _ => rfl
theorem notin_two {k : Nat} {a : PyData} (h : Fit k a) : gIn true a (.tuple [.str "pick", .str "some"]) = some (.bool (!inTwo a)) := by
  cases a with
  | dict kvs =>
    have e : kvs = [] := by cases k <;> exact h
    subst e
    rfl
  | _ => rfl
theorem eq_count {k : Nat} {a : PyData} (h : Fit k a) : gEq a (.str "count") = some (.bool (PyData.eqv a (.str "count"))) := by
  cases a with
  | dict kvs =>
    have e : kvs = [] := by cases k <;> exact h
    subst e
    rfl
  | _ => rfl
theorem eq_int (a b : Int) : gEq (.int a) (.int b) = some (.bool (a == b)) := rfl
theorem ne_int (a b : Int) : gNe (.int a) (.int b) = some (.bool (!(a == b))) := rfl
theorem fit_mem {k : Nat} {ds : List PyData} (h : Fit k (.tuple ds)) : ds.length ≤ 20 ∧ ∃ j, ∀ d ∈ ds, Fit j d := by
  cases k with
  | zero => exact h.elim
  | succ j => exact ⟨h.1, j, h.2⟩
theorem nameB_str {d : PyData} (h : nameB d = true) : ∃ x, d = .str x := by
  cases d with
  | str x => exact ⟨x, rfl⟩
  | _ => cases h
theorem names_strs : ∀ ds : List PyData, ds.all nameB = true → ∃ zs, strsS ds = some zs ∧ zs.length = ds.length
  | [], _ => ⟨[], rfl, rfl⟩
  | d :: r, h => by
    rw [List.all_cons, Bool.and_eq_true] at h
    obtain ⟨x, rfl⟩ := nameB_str h.1
    obtain ⟨zs, e, l⟩ := names_strs r h.2
    exact ⟨x :: zs, by rw [strsS, e]; rfl, by rw [List.length_cons, List.length_cons, l]⟩
theorem set_len {ds : List PyData} (h : ds.all nameB = true) (few : ds.length ≤ 20) : ∃ n : Int, gLenSet (.tuple ds) = some (.int n) ∧ (n == (ds.length : Int)) = setB ds := by
  obtain ⟨zs, e, l⟩ := names_strs ds h
  refine ⟨unl zs zs.length, ?_, ?_⟩
  · show (strsS ds).bind _ = _
    rw [e, Option.bind_some, if_pos (Nat.lt_of_le_of_lt (show zs.length + 1 ≤ 21 by omega) (by decide))]
  · unfold setB
    rw [e, ← l]
    rfl
theorem all_names (ds : List PyData) : gAll [.list (ds.map fun d => .bool (nameB d))] = some (.bool (ds.all nameB)) := by
  have e : (ds.map fun d => PyData.bool (nameB d)) = (ds.map nameB).map .bool := by rw [List.map_map]; rfl
  rw [e]
  show Option.map _ (truths _) = _
  rw [truths_map']
  simp [List.all_map]
theorem are_names_ok {k : Nat} {d : PyData} (h : Fit k d) : Gd (m_are_names [d, .int 1, .int 6]) fun r => r = .bool (namesB d) := by
  unfold m_are_names
  refine m_fnP rfl ?_
  unfold b_are_names
  decreasing_trivial
  cases d with
  | tuple ds =>
    obtain ⟨few, j, fits⟩ := fit_mem h
    refine gd (a := .bool true) rfl ?_
    decreasing_trivial
    refine gd (a := .int (ds.length : Nat)) rfl ?_
    decreasing_trivial
    by_cases l1 : 1 ≤ ds.length
    · refine .inl ⟨by simp; omega, ?_⟩
      decreasing_trivial
      by_cases l2 : ds.length ≤ 6
      · refine .inr ⟨by simp; omega, ?_⟩
        decreasing_trivial
        refine f_lc_pure (fun _ => true) (fun d => .bool (nameB d)) ?_
        decreasing_trivial
        refine .inl ⟨ds, .inr rfl, rfl, Nat.lt_of_le_of_lt few (by decide), fun d hd => ⟨?_, fun _ => ?_⟩, ?_⟩
        · decreasing_trivial
          exact ⟨rfl, rfl⟩
        · decreasing_trivial
          refine gd_mono (is_name_ok (fits d hd)) fun r hr => ?_
          exact ⟨hr, rfl⟩
        · rw [List.filter_eq_self.mpr (fun _ _ => rfl)]
          decreasing_trivial
          refine gd (all_names ds) ?_
          refine ⟨_, rfl, ?_⟩
          cases al : ds.all nameB with
          | true =>
            refine .inl ⟨rfl, ?_⟩
            decreasing_trivial
            obtain ⟨n, e1, e2⟩ := set_len al few
            refine gd e1 ?_
            decreasing_trivial
            refine gd (a := .int (ds.length : Nat)) rfl ?_
            refine gd (eq_int _ _) ?_
            rw [e2]
            unfold namesB
            simp [l1, l2, al]
          | false =>
            refine .inr ⟨rfl, ?_⟩
            unfold namesB
            simp [al]
      · refine .inl ⟨by simp; omega, ?_⟩
        decreasing_trivial
        unfold namesB
        simp [l2]
    · refine .inr ⟨by simp; omega, ?_⟩
      decreasing_trivial
      unfold namesB
      simp [l1]
  | dict kvs =>
    have e : kvs = [] := by cases k <;> exact h
    subst e
    refine gd (a := .bool false) rfl ?_
    decreasing_trivial
    rfl
  | _ =>
    refine gd (a := .bool false) rfl ?_
    decreasing_trivial
    rfl
end K04

namespace K04
open PySem PySem.Spec PyProof.Rows L2 Dl
local macro_rules | `(tactic| decreasing_trivial_pre_omega) => `(tactic| (first | with_reducible refine s_seq ?_ | with_reducible refine s_if ?_ | with_reducible refine s_set ?_ | with_reducible refine s_setIx ?_ | with_reducible refine s_ret ?_ | with_reducible refine s_nil ?_ | with_reducible refine s_own ?_ | with_reducible refine s_par ?_ | with_reducible refine t_tst ?_ | with_reducible refine t_and ?_ | with_reducible refine t_or ?_ | with_reducible refine t_not ?_ | with_reducible refine t_yes ?_ | with_reducible refine e_op ?_ | with_reducible refine e_un ?_ | with_reducible refine e_chain ?_ | with_reducible refine e_b ?_ | with_reducible refine e_c ?_ | with_reducible refine e_l ?_ | with_reducible refine e_tup ?_ | with_reducible refine e_call ?_ | with_reducible refine e_and ?_ | with_reducible refine e_or ?_ | with_reducible refine e_not ?_ | with_reducible refine e_if ?_ | with_reducible refine e_sl ?_ | with_reducible refine o_n ?_ | with_reducible refine o_s ?_ | with_reducible refine a_nil ?_ | with_reducible refine a_cons ?_ | with_reducible refine f_lst ?_ | with_reducible refine f_call ?_ | with_reducible refine f_itA ?_ | with_reducible refine f_r1 ?_ | with_reducible refine r_seq ?_ | with_reducible refine n_add ?_ | with_reducible refine n_sub ?_ | with_reducible refine n_gt ?_ | with_reducible refine n_ge ?_ | with_reducible refine n_lt ?_ | with_reducible refine n_le ?_ | with_reducible refine e_var (by with_unfolding_all rfl) ?_ | with_reducible refine e_ixc (by with_unfolding_all rfl) ?_ | with_reducible refine e_callM (by with_unfolding_all rfl) ?_ | with_reducible refine s_frz (by with_unfolding_all rfl) ?_ | with_reducible refine s_app (by with_unfolding_all rfl) ?_ | refine Or.inl ⟨by first | with_reducible rfl | with_reducible exact Bool.not_false, ?_⟩ | refine Or.inr ⟨by first | with_reducible rfl | with_reducible exact Bool.not_true, ?_⟩ | refine Exists.intro _ (Exists.intro _ ⟨rfl, rfl, gd rfl ?_⟩) | refine Exists.intro _ ⟨rfl, ?_⟩))
local macro_rules | `(tactic| decreasing_trivial) => `(tactic| repeat decreasing_trivial_pre_omega)
theorem at_0 (a : PyData) (r : List PyData) : gIx (.tuple (a :: r)) (.int 0) = some a := by
  show atI (a :: r) 0 = some a
  unfold atI ixN
  simp
theorem at_1 (a b : PyData) (r : List PyData) : gIx (.tuple (a :: b :: r)) (.int 1) = some b := by
  show atI (a :: b :: r) 1 = some b
  unfold atI ixN
  rw [if_pos (by decide), if_pos (by simp only [List.length_cons]; omega)]
  rfl
theorem at_2 (a b c : PyData) (r : List PyData) : gIx (.tuple (a :: b :: c :: r)) (.int 2) = some c := by
  show atI (a :: b :: c :: r) 2 = some c
  unfold atI ixN
  rw [if_pos (by decide), if_pos (by simp only [List.length_cons]; omega)]
  rfl
theorem notin_23 (n : Int) : gIn true (.int n) (.tuple [.int 2, .int 3]) = some (.bool (!(2 == n || (3 == n || false)))) := rfl
theorem is_kind_ok {k : Nat} {d : PyData} (h : Fit k d) : Gd (m_is_kind [d]) fun r => r = .bool (kindB d) := by
  unfold m_is_kind
  refine m_fnP rfl ?_
  unfold b_is_kind
  decreasing_trivial
  cases d with
  | tuple ds =>
    obtain ⟨few, j, fits⟩ := fit_mem h
    refine gd (a := .bool true) rfl ?_
    decreasing_trivial
    refine gd (a := .int (ds.length : Nat)) rfl ?_
    decreasing_trivial
    refine ⟨by decide, ?_⟩
    refine gd (notin_23 _) ?_
    decreasing_trivial
    match ds, fits with
    | [], _ =>
      refine .inl ⟨rfl, ?_⟩
      decreasing_trivial
      rfl
    | [a], _ =>
      refine .inl ⟨rfl, ?_⟩
      decreasing_trivial
      rfl
    | [a, b], fits =>
      have fa := fits a (by simp)
      have fb := fits b (by simp)
      refine .inr ⟨rfl, ?_⟩
      decreasing_trivial
      refine gd (a := .int 2) rfl ?_
      decreasing_trivial
      refine gd (eq_int _ _) ?_
      decreasing_trivial
      refine .inl ⟨by decide, ?_⟩
      decreasing_trivial
      refine gd (at_0 _ _) ?_
      decreasing_trivial
      refine ⟨by decide, ?_⟩
      refine gd (in_two fa) ?_
      refine ⟨_, rfl, ?_⟩
      cases t : inTwo a with
      | true =>
        decreasing_trivial
        refine gd (at_1 _ _ _) ?_
        decreasing_trivial
        refine gd_mono (are_names_ok fb) fun r hr => ?_
        subst hr
        unfold kindB
        simp [t]
      | false =>
        decreasing_trivial
        unfold kindB
        simp [t]
    | [a, lo, hi], fits =>
      have fa := fits a (by simp)
      have fl := fits lo (by simp)
      have fh := fits hi (by simp)
      refine .inr ⟨rfl, ?_⟩
      decreasing_trivial
      refine gd (a := .int 3) rfl ?_
      decreasing_trivial
      refine gd (eq_int _ _) ?_
      decreasing_trivial
      refine .inr ⟨by decide, ?_⟩
      decreasing_trivial
      refine s_asg ?_
      decreasing_trivial
      refine gd rfl ?_
      decreasing_trivial
      refine gd (eq_count fa) ?_
      refine ⟨_, rfl, ?_⟩
      cases t : PyData.eqv a (.str "count") with
      | false =>
        decreasing_trivial
        unfold kindB
        simp [t]
      | true =>
        decreasing_trivial
        refine gd_mono (is_number_ok fl) fun r hr => ?_
        subst hr
        refine ⟨_, rfl, ?_⟩
        cases wl : wholeB 0 1000000 lo with
        | false =>
          decreasing_trivial
          unfold kindB
          simp [wl]
        | true =>
          decreasing_trivial
          refine gd_mono (is_number_ok fh) fun r hr => ?_
          subst hr
          refine ⟨_, rfl, ?_⟩
          cases wh : wholeB 0 1000000 hi with
          | false =>
            decreasing_trivial
            unfold kindB
            simp [wh]
          | true =>
            cases lo with
            | int i =>
              cases hi with
              | int j =>
                decreasing_trivial
                unfold kindB leB
                simp [t, wl, wh]
              | _ => cases wh
            | _ => cases wl
    | a :: b :: c :: d :: r, _ =>
      refine .inl ⟨?_, ?_⟩
      · simp only [List.length_cons]
        simp
        omega
      · decreasing_trivial
        rfl
  | dict kvs =>
    have e : kvs = [] := by cases k <;> exact h
    subst e
    refine gd (a := .bool false) rfl ?_
    decreasing_trivial
    rfl
  | _ =>
    refine gd (a := .bool false) rfl ?_
    decreasing_trivial
    rfl

theorem notin_pot {D : PyData → Prop} (h : D (.int 1000000)) : Gd (gPow (.int 10) (.int 6)) D := by
  refine n_pow (b := 6) 4 (by decide) (by decide) (by decide) (by decide) fun _ => ?_
  have e : (10 : Int) ^ 6 = 1000000 := by decide
  rw [e]
  exact h
theorem eq_empty (ds : List PyData) : gEq (.tuple ds) (.tuple []) = some (.bool ds.isEmpty) := by
  have e : PyData.eqv (.tuple ds) (.tuple []) = ds.isEmpty := by cases ds <;> rfl
  unfold gEq
  rw [if_neg (by simp [isStrD]), e]
  split <;> rfl
theorem false_in (bs : List Bool) : gIn false (.bool false) (.list (bs.map .bool)) = some (.bool (!bs.all id)) := by
  have e : (bs.map PyData.bool).all scalD = true := by
    rw [List.all_map]
    exact List.all_eq_true.mpr fun _ _ => rfl
  show inD false (.bool false) (bs.map .bool) = _
  unfold inD
  rw [if_pos ⟨rfl, e⟩, List.any_map]
  have q : (bs.any ((fun z => PyData.eqv z (.bool false)) ∘ PyData.bool)) = !bs.all id := by
    induction bs with
    | nil => rfl
    | cons b r ih =>
      rw [List.any_cons, List.all_cons, ih (by rw [List.all_map]; exact List.all_eq_true.mpr fun _ _ => rfl)]
      cases b <;> rfl
  rw [q]
  rfl
end K04

namespace K04
open PySem PySem.Spec PyProof.Rows L2 Dl
local macro_rules | `(tactic| decreasing_trivial_pre_omega) => `(tactic| (first | with_reducible refine s_seq ?_ | with_reducible refine s_if ?_ | with_reducible refine s_set ?_ | with_reducible refine s_setIx ?_ | with_reducible refine s_ret ?_ | with_reducible refine s_nil ?_ | with_reducible refine s_own ?_ | with_reducible refine s_par ?_ | with_reducible refine t_tst ?_ | with_reducible refine t_and ?_ | with_reducible refine t_or ?_ | with_reducible refine t_not ?_ | with_reducible refine t_yes ?_ | with_reducible refine e_op ?_ | with_reducible refine e_un ?_ | with_reducible refine e_chain ?_ | with_reducible refine e_b ?_ | with_reducible refine e_c ?_ | with_reducible refine e_l ?_ | with_reducible refine e_tup ?_ | with_reducible refine e_call ?_ | with_reducible refine e_and ?_ | with_reducible refine e_or ?_ | with_reducible refine e_not ?_ | with_reducible refine e_if ?_ | with_reducible refine e_sl ?_ | with_reducible refine o_n ?_ | with_reducible refine o_s ?_ | with_reducible refine a_nil ?_ | with_reducible refine a_cons ?_ | with_reducible refine f_lst ?_ | with_reducible refine f_call ?_ | with_reducible refine f_itA ?_ | with_reducible refine f_r1 ?_ | with_reducible refine r_seq ?_ | with_reducible refine n_add ?_ | with_reducible refine n_sub ?_ | with_reducible refine n_gt ?_ | with_reducible refine n_ge ?_ | with_reducible refine n_lt ?_ | with_reducible refine n_le ?_ | with_reducible refine e_var (by with_unfolding_all rfl) ?_ | with_reducible refine e_ixc (by with_unfolding_all rfl) ?_ | with_reducible refine e_callM (by with_unfolding_all rfl) ?_ | with_reducible refine s_frz (by with_unfolding_all rfl) ?_ | with_reducible refine s_app (by with_unfolding_all rfl) ?_ | refine Or.inl ⟨by first | with_reducible rfl | with_reducible exact Bool.not_false, ?_⟩ | refine Or.inr ⟨by first | with_reducible rfl | with_reducible exact Bool.not_true, ?_⟩ | refine Exists.intro _ (Exists.intro _ ⟨rfl, rfl, gd rfl ?_⟩) | refine Exists.intro _ ⟨rfl, ?_⟩))
local macro_rules | `(tactic| decreasing_trivial) => `(tactic| repeat decreasing_trivial_pre_omega)
theorem at_ok (ds : List PyData) {r : Int} (h0 : 0 ≤ r) (h : r < ds.length) : ∃ d, atI ds r = some d ∧ d ∈ ds := by
  unfold atI ixN
  rw [if_pos h0, if_pos h, Option.bind_some]
  have l : r.toNat < ds.length := by omega
  exact ⟨ds[r.toNat], by rw [List.getElem?_eq_getElem l], List.getElem_mem l⟩
theorem ix_list (ds : List PyData) {r : Int} {D : PyData → Prop} (h0 : 0 ≤ r) (h : r < ds.length) (k : ∀ d ∈ ds, D d) : Gd (gIx (.list ds) (.int r)) D := by
  obtain ⟨d, e, m⟩ := at_ok ds h0 h
  exact gd (show atI ds r = some d from e) (k d m)
theorem ix_tup (ds : List PyData) {r : Int} {D : PyData → Prop} (h0 : 0 ≤ r) (h : r < ds.length) (k : ∀ d ∈ ds, D d) : Gd (gIx (.tuple ds) (.int r)) D := by
  obtain ⟨d, e, m⟩ := at_ok ds h0 h
  exact gd (show atI ds r = some d from e) (k d m)
theorem len_cps (x : Str) : x.cps.toList.length = x.length := by rw [Array.length_toList]; rfl
theorem ix_str (x : Str) {r : Int} {D : PyData → Prop} (few : x.length ≤ sizeLine) (h0 : 0 ≤ r) (h : r < x.length) (k : ∀ c ∈ x.cps.toList, D (.str ⟨#[c]⟩)) : Gd (gIx (.str x) (.int r)) D := by
  have l : r.toNat < x.cps.toList.length := by rw [len_cps]; omega
  refine gd (a := .str ⟨#[x.cps.toList[r.toNat]]⟩) ?_ (k _ (List.getElem_mem l))
  show (if x.length ≤ sizeLine then _ else _) = _
  rw [if_pos few]
  unfold atI ixN
  rw [if_pos h0, if_pos (by rw [len_cps]; exact h), Option.bind_some, List.getElem?_eq_getElem l]
  rfl
theorem cat_str {x y : Str} {D : PyData → Prop} (few : x.length + y.length ≤ 1000) (k : D (.str (x ++ y))) : Gd (gAdd (.str x) (.str y)) D :=
  gd (show (if x.length + y.length ≤ sizeLine then _ else _) = _ from if_pos (Nat.le_trans few (by decide))) k
theorem cat_list {x y : List PyData} {D : PyData → Prop} (few : x.length + y.length ≤ 1000) (k : D (.list (x ++ y))) : Gd (gAdd (.list x) (.list y)) D :=
  gd (show (if x.length + y.length ≤ sizeLine then _ else _) = _ from if_pos (Nat.le_trans few (by decide))) k
theorem cat_tup {x y : List PyData} {D : PyData → Prop} (few : x.length + y.length ≤ 1000) (k : D (.tuple (x ++ y))) : Gd (gAdd (.tuple x) (.tuple y)) D :=
  gd (show (if x.length + y.length ≤ sizeLine then _ else _) = _ from if_pos (Nat.le_trans few (by decide))) k
theorem cps_cat (x y : Str) : (x ++ y).cps.toList = x.cps.toList ++ y.cps.toList := by rw [PySem.Str.cps_append, Array.toList_append]
theorem len_cat (x y : Str) : (x ++ y).length = x.length + y.length := PySem.Str.length_append x y
theorem len_one (c : Nat) : (⟨#[c]⟩ : Str).length = 1 := rfl
/-- what the pot stands at -/
theorem pot_at {n : Nat} {pd : List PyData} (h : Pot n pd) {m : Int} (hn : n < 1000000) (hm : 1 ≤ m) (hM : m ≤ 10000000) {D : PyData × List PyData → Prop} (k : ∀ (r : Int) (p : List PyData), 0 ≤ r → r < m → Pot (n + 1) p → D (.int r, p)) : Gd (m__law_take pd [.int m]) D :=
  gd_mono (take_ok h hn hm hM) fun q hq => by
    obtain ⟨d, p⟩ := q
    obtain ⟨r, e, h0, h1, hp⟩ := hq
    have e' : d = .int r := e
    subst e'
    exact k r p h0 h1 hp
def nearWords : List PyData := [.str "isa", .str "no", .str "a", .str "zzzzzzzz", .str "ends", .str "ifs", .str "hase", .str "fro", .str "t", .str "picks", .str "an", .str "counts"]
theorem near_names : ∀ d ∈ nearWords, nameB d = true := by
  have e : nearWords.all nameB = true := by decide +kernel
  exact fun d hd => List.all_eq_true.mp e d hd
def withQ : PyData → PyData
  | .str x => .str (x ++ "q")
  | d => d
theorem word_q : ∀ d ∈ words, nameB (withQ d) = true := by
  have e : (words.all fun d => nameB (withQ d)) = true := by decide +kernel
  exact fun d hd => List.all_eq_true.mp e d hd
theorem word_len : ∀ d ∈ words, ∃ x, d = .str x ∧ x.length ≤ 5 := by
  have e : (words.all fun d => match d with | .str x => decide (x.length ≤ 5) | _ => false) = true := by decide +kernel
  intro d hd
  have q := List.all_eq_true.mp e d hd
  cases d with
  | str x => exact ⟨x, rfl, of_decide_eq_true q⟩
  | _ => cases q
theorem inWords_mem {x : Str} (h : inWords (.str x) = true) : PyData.str x ∈ words := by
  unfold inWords at h
  obtain ⟨d, hd, e⟩ := List.any_eq_true.mp h
  obtain ⟨y, rfl, _⟩ := word_len d hd
  have e' : (y == x) = true := e
  rw [beq_iff_eq.mp e'] at hd
  exact hd
theorem nameB_of {x : Str} (l1 : 1 ≤ x.length) (l2 : x.length ≤ 8) (nw : inWords (.str x) = false) (al : ∀ c ∈ x.cps.toList, letter c = true) : nameB (.str x) = true := by
  have e : x.cps.toList.all letter = true := List.all_eq_true.mpr al
  unfold nameB
  simp [l1, l2, nw, al]
theorem nameB_parts {x : Str} (h : nameB (.str x) = true) : 1 ≤ x.length ∧ x.length ≤ 8 ∧ ∀ c ∈ x.cps.toList, c < 200 := by
  unfold nameB at h
  simp only [Bool.and_eq_true, decide_eq_true_eq, List.all_eq_true] at h
  refine ⟨h.1.1, h.1.2, fun c hc => ?_⟩
  have q := h.2.2 c hc
  unfold letter at q
  simp at q
  omega
theorem name_ok {n : Nat} {pd : List PyData} (h : Pot n pd) (hn : n < 100000) : Gd (m__law_name pd []) fun q => ∃ x, q.1 = .str x ∧ nameB (.str x) = true ∧ Pot (n + 20) q.2 := by
  unfold m__law_name
  refine m_fnM rfl ?_
  unfold b__law_name
  decreasing_trivial
  refine pot_at h (by omega) (by decide) (by decide) fun r p h0 h1 hp => ?_
  decreasing_trivial
  refine gd (eq_int _ _) ?_
  decreasing_trivial
  cases t : (r == 0) with
  | true =>
    decreasing_trivial
    refine ⟨by decide, ?_⟩
    decreasing_trivial
    refine pot_at hp (by omega) (by decide) (by decide) fun r2 p2 h02 h12 hp2 => ?_
    decreasing_trivial
    refine ix_list nearWords h02 (by exact h12) fun d hd => ?_
    have nm := near_names d hd
    obtain ⟨x, rfl⟩ := nameB_str nm
    refine ⟨_, rfl, x, rfl, nm, hp2.mono (by omega)⟩
  | false =>
    decreasing_trivial
    refine s_for (I := fun ds s => ∃ (pd : List PyData) (x : Str) (v : SV), s = [.pot 0 pd, .dat (.str "abcdefghijklmnopqrstuvwxyz"), .dat (.str x), v] ∧ Pot (n + 10 - ds.length) pd ∧ 1 ≤ x.length + ds.length ∧ x.length + ds.length ≤ 8 ∧ ∀ c ∈ x.cps.toList, letter c = true) ?_ (fun d ds s hI => ?_) (fun s hI => ?_)
    · decreasing_trivial
      refine pot_at hp (by omega) (by decide) (by decide) fun r2 p2 h02 h12 hp2 => ?_
      decreasing_trivial
      refine ⟨by omega, by omega, p2, "", _, rfl, ?_⟩
      have l : (Dl.rng 0 (1 + r2)).length = (1 + r2).toNat := by
        unfold Dl.rng
        rw [List.length_map, List.length_range]
        congr 1
        omega
      rw [l]
      refine ⟨hp2.mono (by omega), ?_, ?_, fun c hc => ?_⟩
      · show 1 ≤ 0 + _
        omega
      · show 0 + _ ≤ 8
        omega
      · have : ("" : Str).cps.toList = [] := rfl
        rw [this] at hc
        cases hc
    · obtain ⟨pd, x, v, rfl, hp, l1, l2, al⟩ := hI
      rw [List.length_cons] at hp l1 l2
      refine ⟨_, rfl, ?_⟩
      decreasing_trivial
      refine pot_at hp (by omega) (by decide) (by decide) fun r2 p2 h02 h12 hp2 => ?_
      decreasing_trivial
      refine ix_str "abcdefghijklmnopqrstuvwxyz" (by decide) h02 (by exact h12) fun c hc => ?_
      decreasing_trivial
      have lc : letter c = true := by
        rw [letters_range, List.mem_range'_1] at hc
        unfold letter
        simp
        omega
      refine cat_str (by rw [len_one]; omega) ?_
      refine ⟨p2, _, _, rfl, hp2.mono (by omega), ?_, ?_, fun c' hc' => ?_⟩
      · rw [len_cat, len_one]; omega
      · rw [len_cat, len_one]; omega
      · rw [cps_cat] at hc'
        rcases List.mem_append.mp hc' with q | q
        · exact al c' q
        · have q' : c' ∈ [c] := q
          rw [List.mem_singleton.mp q']
          exact lc
    · obtain ⟨pd, x, v, rfl, hp, l1, l2, al⟩ := hI
      rw [List.length_nil] at hp l1 l2
      decreasing_trivial
      refine gd_mono words_ok fun r hr => ?_
      subst hr
      refine gd (in_words' x) ?_
      decreasing_trivial
      cases w : inWords (.str x) with
      | true =>
        have nm := word_q _ (inWords_mem w)
        decreasing_trivial
        refine cat_str (by
          have : ("q" : Str).length = 1 := rfl
          omega) ?_
        decreasing_trivial
        exact ⟨nm, hp.mono (by omega)⟩
      | false =>
        decreasing_trivial
        exact ⟨nameB_of l1 l2 w al, hp.mono (by omega)⟩

theorem number_ok {n : Nat} {pd : List PyData} (h : Pot n pd) (hn : n < 100000) : Gd (m__law_number pd []) fun q => ∃ i : Int, q.1 = .int i ∧ 0 ≤ i ∧ i ≤ 1000000 ∧ Pot (n + 3) q.2 := by
  unfold m__law_number
  refine m_fnM rfl ?_
  unfold b__law_number
  decreasing_trivial
  refine notin_pot ?_
  decreasing_trivial
  refine pot_at h (by omega) (by decide) (by decide) fun r p h0 h1 hp => ?_
  decreasing_trivial
  refine notin_pot ?_
  decreasing_trivial
  refine pot_at hp (by omega) (by decide) (by decide) fun r2 p2 h02 h12 hp2 => ?_
  decreasing_trivial
  refine ⟨by show 5 ≤ _; decide, ?_⟩
  decreasing_trivial
  refine pot_at hp2 (by omega) (by decide) (by decide) fun r3 p3 h03 h13 hp3 => ?_
  decreasing_trivial
  refine ix_list _ h03 (by exact h13) fun d hd => ?_
  have few : (1000000 : Int) + 1 = 1000001 := by decide
  rw [few] at h12
  have big : ∃ i : Int, d = .int i ∧ 0 ≤ i ∧ i ≤ 1000000 := by
    simp only [List.mem_cons, List.not_mem_nil, or_false] at hd
    rcases hd with rfl | rfl | rfl | rfl | rfl
    · exact ⟨0, rfl, by decide, by decide⟩
    · exact ⟨1, rfl, by decide, by decide⟩
    · exact ⟨1000000, rfl, by decide, by decide⟩
    · exact ⟨r, rfl, h0, by omega⟩
    · exact ⟨r2, rfl, h02, by omega⟩
  obtain ⟨i, rfl, a, b⟩ := big
  exact ⟨_, rfl, i, rfl, a, b, hp3.mono (by omega)⟩
/-- unlike names -/
def Opts (ds : List PyData) : Prop := ∃ zs : List Str, ds = zs.map .str ∧ zs.Nodup ∧ ∀ z ∈ zs, nameB (.str z) = true
theorem scals (zs : List Str) : (zs.map PyData.str).all scalD = true := by
  rw [List.all_map]
  exact List.all_eq_true.mpr fun _ _ => rfl
theorem any_str (zs : List Str) (x : Str) : ((zs.map PyData.str).any fun z => PyData.eqv z (.str x)) = decide (x ∈ zs) := by
  induction zs with
  | nil => rfl
  | cons z r ih =>
    rw [List.map_cons, List.any_cons, ih]
    have e : PyData.eqv (.str z) (.str x) = (z == x) := rfl
    rw [e]
    by_cases q : z = x
    · subst q
      simp
    · have q' : (z == x) = false := beq_eq_false_iff_ne.mpr q
      rw [q']
      have e : (x ∈ z :: r) ↔ x ∈ r := by
        rw [List.mem_cons]
        exact ⟨fun o => o.elim (fun e => absurd e.symm q) id, .inr⟩
      rw [Bool.false_or]
      exact decide_eq_decide.mpr e.symm
theorem set_one (zs : List Str) (x : Str) : (zs ++ [x]).map PyData.str = zs.map .str ++ [.str x] := by rw [List.map_append]; rfl
theorem options_ok {n : Nat} {pd : List PyData} (h : Pot n pd) (hn : n < 50000) : Gd (m__law_options pd []) fun q => ∃ ds, q.1 = .tuple ds ∧ Opts ds ∧ 1 ≤ ds.length ∧ ds.length ≤ 6 ∧ Pot (n + 150) q.2 := by
  unfold m__law_options
  refine m_fnM rfl ?_
  unfold b__law_options
  decreasing_trivial
  refine ⟨by decide, by show 1 < 4; decide, ?_⟩
  refine s_seq ?_
  refine s_for (I := fun ds s => ∃ (pd : List PyData) (zs : List Str) (v w : SV), s = [.pot 0 pd, .own (zs.map .str), v, w] ∧ Pot (n + 148 - 20 * ds.length) pd ∧ zs.length + ds.length ≤ 6 ∧ (zs = [] → 1 ≤ ds.length) ∧ zs.Nodup ∧ ∀ z ∈ zs, nameB (.str z) = true) ?_ (fun d ds s hI => ?_) (fun s hI => ?_)
  · decreasing_trivial
    refine pot_at h (by omega) (by decide) (by decide) fun r p h0 h1 hp => ?_
    decreasing_trivial
    refine ⟨by omega, by omega, p, [], _, _, rfl, ?_⟩
    have l : (Dl.rng 0 (1 + r)).length = (1 + r).toNat := by
      unfold Dl.rng
      rw [List.length_map, List.length_range, Int.sub_zero]
    rw [l, List.length_nil]
    exact ⟨hp.mono (by omega), by omega, fun _ => by omega, List.nodup_nil, fun _ hz => by cases hz⟩
  · obtain ⟨pd, zs, v, w, rfl, hp, l2, l3, nd, nm⟩ := hI
    rw [List.length_cons] at hp l2 l3
    refine ⟨_, rfl, ?_⟩
    decreasing_trivial
    refine gd_mono (name_ok hp (by omega)) fun q hq => ?_
    obtain ⟨d2, p2⟩ := q
    obtain ⟨x, e, nx, hp2⟩ := hq
    have e' : d2 = .str x := e
    subst e'
    have hp3 : Pot (n + 148 - 20 * ds.length) p2 := hp2.mono (by omega)
    decreasing_trivial
    have inn : Ge (dInC true (dVar 3) 1 [.pot 0 p2, .own (zs.map .str), .dat d, .dat (.str x)]) fun a s => a = .bool (!decide (x ∈ zs)) ∧ s = [.pot 0 p2, .own (zs.map .str), .dat d, .dat (.str x)] := by
      refine ⟨_, _, ?_, rfl, rfl⟩
      unfold dInC dVar contents
      simp only [List.getElem?_cons_succ, List.getElem?_cons_zero, Option.bind_some]
      rw [if_pos ⟨rfl, scals zs⟩, any_str]
      simp
    refine ge_mono inn fun a s q => ?_
    obtain ⟨rfl, rfl⟩ := q
    refine ⟨_, rfl, ?_⟩
    by_cases mem : x ∈ zs
    · refine .inr ⟨by simp [mem], ?_⟩
      refine s_nil ?_
      exact ⟨p2, zs, _, _, rfl, hp3, by omega, fun z => (by subst z; cases mem), nd, nm⟩
    · refine .inl ⟨by simp [mem], ?_⟩
      refine s_app (p0 := zs.map .str) rfl ?_
      refine e_var rfl ?_
      refine ⟨zs.map .str, rfl, ?_, p2, zs ++ [x], _, _, (by rw [set_one]; rfl), hp3, ?_, fun z => ?_, ?_, fun z hz => ?_⟩
      · rw [List.length_map]
        exact Nat.lt_of_le_of_lt (show zs.length ≤ 6 by omega) (by decide)
      · rw [List.length_append, List.length_singleton]; omega
      · simp at z
      · rw [List.nodup_append]
        refine ⟨nd, by simp, fun a ha b hb => ?_⟩
        rw [List.mem_singleton.mp hb]
        exact fun e => mem (e ▸ ha)
      · rcases List.mem_append.mp hz with q | q
        · exact nm z q
        · rw [List.mem_singleton.mp q]; exact nx
  · obtain ⟨pd, zs, v, w, rfl, hp, l2, l3, nd, nm⟩ := hI
    rw [List.length_nil] at hp l2 l3
    have l1 : 1 ≤ zs.length := by
      cases zs with
      | nil => exact absurd (l3 rfl) (by decide)
      | cons => simp
    refine s_seq ?_
    refine s_frz rfl ?_
    decreasing_trivial
    refine gd (a := .tuple (zs.map .str)) rfl ?_
    refine ⟨_, rfl, zs.map .str, rfl, ⟨zs, rfl, nd, nm⟩, ?_, ?_, hp.mono (by omega)⟩
    · rw [List.length_map]; omega
    · rw [List.length_map]; omega
end K04

namespace K04
open PySem PySem.Spec PyProof.Rows L2 Dl
local macro_rules | `(tactic| decreasing_trivial_pre_omega) => `(tactic| (first | with_reducible refine s_seq ?_ | with_reducible refine s_if ?_ | with_reducible refine s_set ?_ | with_reducible refine s_setIx ?_ | with_reducible refine s_ret ?_ | with_reducible refine s_nil ?_ | with_reducible refine s_own ?_ | with_reducible refine s_par ?_ | with_reducible refine t_tst ?_ | with_reducible refine t_and ?_ | with_reducible refine t_or ?_ | with_reducible refine t_not ?_ | with_reducible refine t_yes ?_ | with_reducible refine e_op ?_ | with_reducible refine e_un ?_ | with_reducible refine e_chain ?_ | with_reducible refine e_b ?_ | with_reducible refine e_c ?_ | with_reducible refine e_l ?_ | with_reducible refine e_tup ?_ | with_reducible refine e_call ?_ | with_reducible refine e_and ?_ | with_reducible refine e_or ?_ | with_reducible refine e_not ?_ | with_reducible refine e_if ?_ | with_reducible refine e_sl ?_ | with_reducible refine o_n ?_ | with_reducible refine o_s ?_ | with_reducible refine a_nil ?_ | with_reducible refine a_cons ?_ | with_reducible refine f_lst ?_ | with_reducible refine f_call ?_ | with_reducible refine f_itA ?_ | with_reducible refine f_r1 ?_ | with_reducible refine r_seq ?_ | with_reducible refine n_add ?_ | with_reducible refine n_sub ?_ | with_reducible refine n_gt ?_ | with_reducible refine n_ge ?_ | with_reducible refine n_lt ?_ | with_reducible refine n_le ?_ | with_reducible refine e_var (by with_unfolding_all rfl) ?_ | with_reducible refine e_ixc (by with_unfolding_all rfl) ?_ | with_reducible refine e_callM (by with_unfolding_all rfl) ?_ | with_reducible refine s_frz (by with_unfolding_all rfl) ?_ | with_reducible refine s_app (by with_unfolding_all rfl) ?_ | refine Or.inl ⟨by first | with_reducible rfl | with_reducible exact Bool.not_false, ?_⟩ | refine Or.inr ⟨by first | with_reducible rfl | with_reducible exact Bool.not_true, ?_⟩ | refine Exists.intro _ (Exists.intro _ ⟨rfl, rfl, gd rfl ?_⟩) | refine Exists.intro _ ⟨rfl, ?_⟩))
local macro_rules | `(tactic| decreasing_trivial) => `(tactic| repeat decreasing_trivial_pre_omega)
/-- data that the law bends: numbers, short texts, tuples of few -/
def Pl : Nat → PyData → Prop
  | _, .int i => 0 ≤ i ∧ i ≤ 1000000
  | _, .str x => x.length ≤ 8 ∧ ∀ c ∈ x.cps.toList, c < 200
  | k + 1, .tuple ds => ds.length ≤ 6 ∧ ∀ d ∈ ds, Pl k d
  | _, _ => False
theorem pl_str (k : Nat) {x : Str} (h : x.length ≤ 8 ∧ ∀ c ∈ x.cps.toList, c < 200) : Pl k (.str x) := by cases k <;> exact h
theorem pl_int (k : Nat) {i : Int} (h : 0 ≤ i ∧ i ≤ 1000000) : Pl k (.int i) := by cases k <;> exact h
theorem pl_name (k : Nat) {x : Str} (h : nameB (.str x) = true) : Pl k (.str x) := pl_str k ⟨(nameB_parts h).2.1, (nameB_parts h).2.2⟩
theorem pl_opts (k : Nat) {ds : List PyData} (h : Opts ds) (few : ds.length ≤ 6) : Pl (k + 1) (.tuple ds) := by
  obtain ⟨zs, rfl, _, nm⟩ := h
  refine ⟨few, fun d hd => ?_⟩
  obtain ⟨z, hz, rfl⟩ := List.mem_map.mp hd
  exact pl_name k (nm z hz)
theorem strs_map : ∀ zs : List Str, strsS (zs.map .str) = some zs
  | [] => rfl
  | z :: r => by rw [List.map_cons, strsS, strs_map r]; rfl
theorem unl_all {zs : List Str} (nd : zs.Nodup) : ∀ i, i ≤ zs.length → unl zs i = i
  | 0, _ => rfl
  | i + 1, h => by
    have e : zs[i]? = some zs[i] := List.getElem?_eq_getElem h
    have no : zs[i] ∉ zs.take i := fun m => by
      obtain ⟨j, hj, q⟩ := List.getElem_of_mem m
      rw [List.getElem_take] at q
      rw [List.length_take] at hj
      have := (List.getElem_inj nd).mp q
      omega
    unfold unl
    rw [e]
    simp only [no, if_false]
    rw [unl_all nd i (by omega)]
theorem opts_names {ds : List PyData} (h : Opts ds) (l1 : 1 ≤ ds.length) (l2 : ds.length ≤ 6) : namesB (.tuple ds) = true := by
  obtain ⟨zs, rfl, nd, nm⟩ := h
  have a : (zs.map PyData.str).all nameB = true := by
    rw [List.all_map]
    exact List.all_eq_true.mpr nm
  have s : setB (zs.map .str) = true := by
    unfold setB
    rw [strs_map]
    simp only [unl_all nd zs.length (Nat.le_refl _), decide_true]
  unfold namesB
  simp only [l1, l2, a, s, decide_true, Bool.and_self]
theorem kind_ok {n : Nat} {pd : List PyData} (h : Pot n pd) (hn : n < 40000) : Gd (m__law_kind pd []) fun q => ∃ ds, q.1 = .tuple ds ∧ kindB (.tuple ds) = true ∧ Pl 2 (.tuple ds) ∧ Pot (n + 160) q.2 := by
  unfold m__law_kind
  refine m_fnM rfl ?_
  unfold b__law_kind
  decreasing_trivial
  refine pot_at h (by omega) (by decide) (by decide) fun r p h0 h1 hp => ?_
  decreasing_trivial
  by_cases c : r < 2
  · refine .inl ⟨decide_eq_true c, ?_⟩
    decreasing_trivial
    refine ⟨by decide, ?_⟩
    decreasing_trivial
    refine ix_list _ h0 (by exact c) fun w hw => ?_
    decreasing_trivial
    refine gd_mono (options_ok hp (by omega)) fun q hq => ?_
    obtain ⟨d2, p2⟩ := q
    obtain ⟨ds, e, op, l1, l2, hp2⟩ := hq
    have e' : d2 = .tuple ds := e
    subst e'
    decreasing_trivial
    have two : inTwo w = true ∧ Pl 1 w := by
      simp only [List.mem_cons, List.not_mem_nil, or_false] at hw
      rcases hw with rfl | rfl
      · exact ⟨by decide, pl_str 1 ⟨by decide, by decide⟩⟩
      · exact ⟨by decide, pl_str 1 ⟨by decide, by decide⟩⟩
    refine ⟨by show 2 ≤ _; decide, p2, rfl, [w, .tuple ds], rfl, ?_, ⟨by show 2 ≤ 6; decide, fun d hd => ?_⟩, hp2.mono (by omega)⟩
    · have e : kindB (.tuple [w, .tuple ds]) = (inTwo w && namesB (.tuple ds)) := rfl
      rw [e, two.1, opts_names op l1 l2]
      rfl
    · simp only [List.mem_cons, List.not_mem_nil, or_false] at hd
      rcases hd with rfl | rfl
      · exact two.2
      · exact pl_opts 0 op l2
  · refine .inr ⟨decide_eq_false c, ?_⟩
    decreasing_trivial
    refine gd_mono (number_ok hp (by omega)) fun q hq => ?_
    obtain ⟨d2, p2⟩ := q
    obtain ⟨i, e, i0, i1, hp2⟩ := hq
    have e' : d2 = .int i := e
    subst e'
    decreasing_trivial
    refine gd_mono (number_ok hp2 (by omega)) fun q hq => ?_
    obtain ⟨d3, p3⟩ := q
    obtain ⟨j, e, j0, j1, hp3⟩ := hq
    have e' : d3 = .int j := e
    subst e'
    decreasing_trivial
    refine gd (a := .int (if j < i then j else i)) rfl ?_
    decreasing_trivial
    refine gd (a := .int (if j > i then j else i)) rfl ?_
    decreasing_trivial
    have lo : 0 ≤ (if j < i then j else i) ∧ (if j < i then j else i) ≤ 1000000 := by split <;> omega
    have hi : 0 ≤ (if j > i then j else i) ∧ (if j > i then j else i) ≤ 1000000 := by split <;> omega
    have le : (if j < i then j else i) ≤ (if j > i then j else i) := by split <;> split <;> omega
    refine ⟨by show 3 ≤ _; decide, p3, rfl, _, rfl, ?_, ⟨by show 3 ≤ 6; decide, fun d hd => ?_⟩, hp3.mono (by omega)⟩
    · generalize (if j < i then j else i) = a at *
      generalize (if j > i then j else i) = b at *
      have e : kindB (.tuple [.str "count", .int a, .int b]) = (PyData.eqv (.str "count") (.str "count") && (wholeB 0 1000000 (.int a) && (wholeB 0 1000000 (.int b) && leB (.int a) (.int b)))) := rfl
      have t : PyData.eqv (.str "count") (.str "count") = true := by decide
      rw [e, t]
      unfold wholeB leB
      simp [lo.1, lo.2, hi.1, hi.2, le]
    · simp only [List.mem_cons, List.not_mem_nil, or_false] at hd
      rcases hd with rfl | rfl | rfl
      · exact pl_str 1 ⟨by decide, by decide⟩
      · exact pl_int 1 lo
      · exact pl_int 1 hi
/-! ### things that are otherwise -/
theorem fit_str (k : Nat) {x : Str} (h : x.length ≤ 2000 ∧ ∀ c ∈ x.cps.toList, c < 200) : Fit k (.str x) := by cases k <;> exact h
theorem fit_int (k : Nat) {i : Int} (h : i.natAbs < 2 ^ 200) : Fit k (.int i) := by cases k <;> exact h
theorem fit_bool (k : Nat) (b : Bool) : Fit k (.bool b) := by cases k <;> trivial
theorem fit_none (k : Nat) : Fit k .none := by cases k <;> trivial
theorem fit_dict (k : Nat) : Fit k (.dict []) := by cases k <;> rfl
theorem fit_up : ∀ {k : Nat} {d : PyData}, Fit k d → Fit (k + 1) d
  | k, .none, _ => fit_none _
  | k, .bool b, _ => fit_bool _ b
  | k, .int i, h => fit_int _ (by cases k <;> exact h)
  | k, .str x, h => fit_str _ (by cases k <;> exact h)
  | k, .dict kvs, h => by
    have e : kvs = [] := by cases k <;> exact h
    subst e
    exact fit_dict _
  | 0, .list ds, h => h.elim
  | 0, .tuple ds, h => h.elim
  | k + 1, .list ds, h => ⟨h.1, fun d hd => fit_up (h.2 d hd)⟩
  | k + 1, .tuple ds, h => ⟨h.1, fun d hd => fit_up (h.2 d hd)⟩
theorem fit_le {j k : Nat} {d : PyData} (h : Fit j d) (l : j ≤ k) : Fit k d := by
  induction l with
  | refl => exact h
  | step _ ih => exact fit_up ih
theorem fit_pl : ∀ {k : Nat} {d : PyData}, Pl k d → Fit k d
  | k, .int i, h => fit_int _ (by
    have h' : 0 ≤ i ∧ i ≤ 1000000 := by cases k <;> exact h
    have : (1000000 : Nat) < 2 ^ 200 := by decide
    omega)
  | k, .str x, h => fit_str _ (by
    have h' : x.length ≤ 8 ∧ ∀ c ∈ x.cps.toList, c < 200 := by cases k <;> exact h
    exact ⟨by omega, h'.2⟩)
  | 0, .tuple ds, h => h.elim
  | k + 1, .tuple ds, h => ⟨Nat.le_trans h.1 (by decide), fun d hd => fit_pl (h.2 d hd)⟩
  | 0, .none, h => h.elim
  | 0, .bool _, h => h.elim
  | 0, .list _, h => h.elim
  | 0, .dict _, h => h.elim
  | k + 1, .none, h => h.elim
  | k + 1, .bool _, h => h.elim
  | k + 1, .list _, h => h.elim
  | k + 1, .dict _, h => h.elim
end K04

namespace K04
open PySem PySem.Spec PyProof.Rows L2 Dl
local macro_rules | `(tactic| decreasing_trivial_pre_omega) => `(tactic| (first | with_reducible refine s_seq ?_ | with_reducible refine s_if ?_ | with_reducible refine s_set ?_ | with_reducible refine s_setIx ?_ | with_reducible refine s_ret ?_ | with_reducible refine s_nil ?_ | with_reducible refine s_own ?_ | with_reducible refine s_par ?_ | with_reducible refine t_tst ?_ | with_reducible refine t_and ?_ | with_reducible refine t_or ?_ | with_reducible refine t_not ?_ | with_reducible refine t_yes ?_ | with_reducible refine e_op ?_ | with_reducible refine e_un ?_ | with_reducible refine e_chain ?_ | with_reducible refine e_b ?_ | with_reducible refine e_c ?_ | with_reducible refine e_l ?_ | with_reducible refine e_tup ?_ | with_reducible refine e_call ?_ | with_reducible refine e_and ?_ | with_reducible refine e_or ?_ | with_reducible refine e_not ?_ | with_reducible refine e_if ?_ | with_reducible refine e_sl ?_ | with_reducible refine o_n ?_ | with_reducible refine o_s ?_ | with_reducible refine a_nil ?_ | with_reducible refine a_cons ?_ | with_reducible refine f_lst ?_ | with_reducible refine f_call ?_ | with_reducible refine f_itA ?_ | with_reducible refine f_r1 ?_ | with_reducible refine r_seq ?_ | with_reducible refine n_add ?_ | with_reducible refine n_sub ?_ | with_reducible refine n_gt ?_ | with_reducible refine n_ge ?_ | with_reducible refine n_lt ?_ | with_reducible refine n_le ?_ | with_reducible refine e_var (by with_unfolding_all rfl) ?_ | with_reducible refine e_ixc (by with_unfolding_all rfl) ?_ | with_reducible refine e_callM (by with_unfolding_all rfl) ?_ | with_reducible refine s_frz (by with_unfolding_all rfl) ?_ | with_reducible refine s_app (by with_unfolding_all rfl) ?_ | with_reducible refine few_and (by first | decide | (simp only [List.length_cons, List.length_nil, Nat.reduceAdd, Nat.reduceLeDiff])) ?_ | refine Or.inl ⟨by first | with_reducible rfl | with_reducible exact Bool.not_false, ?_⟩ | refine Or.inr ⟨by first | with_reducible rfl | with_reducible exact Bool.not_true, ?_⟩ | refine Exists.intro _ (Exists.intro _ ⟨rfl, rfl, gd rfl ?_⟩) | refine Exists.intro _ ⟨rfl, ?_⟩))
local macro_rules | `(tactic| decreasing_trivial) => `(tactic| repeat decreasing_trivial_pre_omega)
theorem neg_ok {i : Int} {D : PyData → Prop} (h : D (.int (-i))) : Gd (gNeg (.int i)) D := gd rfl h
theorem fit_nil (k : Nat) : Fit (k + 1) (.tuple []) := ⟨by decide, fun d hd => by cases hd⟩
theorem fit_nilL (k : Nat) : Fit (k + 1) (.list []) := ⟨by decide, fun d hd => by cases hd⟩
theorem sl_str {x : Str} {lo hi : Option Int} {D : PyData → Prop} (few : x.length ≤ 1000) (k : ∀ y : Str, y.length ≤ x.length → (∀ c ∈ y.cps.toList, c ∈ x.cps.toList) → D (.str y)) : Gd (gSl (.str x) lo hi) D := by
  refine gd (show (if x.length ≤ sizeLine then _ else _) = _ from if_pos (Nat.le_trans few (by decide))) (k _ ?_ ?_)
  · unfold cutS
    rw [← len_cps, ← len_cps]
    simp only [List.length_take, List.length_drop]
    omega
  · intro c hc
    unfold cutS at hc
    simp only at hc
    exact List.mem_of_mem_drop (List.mem_of_mem_take hc)
theorem sl_tup {ds : List PyData} {lo hi : Option Int} {D : PyData → Prop} (k : ∀ es : List PyData, es.length ≤ ds.length → (∀ d ∈ es, d ∈ ds) → D (.tuple es)) : Gd (gSl (.tuple ds) lo hi) D := by
  refine gd rfl (k _ ?_ ?_)
  · unfold Dl.cutD
    simp only [List.length_take, List.length_drop]
    omega
  · intro d hd
    unfold Dl.cutD at hd
    exact List.mem_of_mem_drop (List.mem_of_mem_take hd)
theorem fit_tup {k : Nat} {es : List PyData} (l : es.length ≤ 20) (h : ∀ d ∈ es, Fit k d) : Fit (k + 1) (.tuple es) := ⟨l, h⟩
theorem fit_lst {k : Nat} {es : List PyData} (l : es.length ≤ 20) (h : ∀ d ∈ es, Fit k d) : Fit (k + 1) (.list es) := ⟨l, h⟩
theorem noDcts_of : ∀ {ds : List PyData}, (∀ d ∈ ds, noDct d = true) → noDcts ds = true
  | [], _ => rfl
  | d :: r, h => by rw [noDcts, h d List.mem_cons_self, noDcts_of fun e he => h e (List.mem_cons_of_mem _ he)]; rfl
theorem lays_of : ∀ {ds : List PyData}, (∀ d ∈ ds, d.canLay0 = true) → PyData.canLayAll0 ds = true
  | [], _ => rfl
  | d :: r, h => by rw [PyData.canLayAll0, h d List.mem_cons_self, lays_of fun e he => h e (List.mem_cons_of_mem _ he)]; rfl
theorem depths_of {m : Nat} : ∀ {ds : List PyData}, (∀ d ∈ ds, d.depth ≤ m) → PyData.depthAll ds ≤ m
  | [], _ => Nat.zero_le _
  | d :: r, h => by
    rw [PyData.depthAll]
    exact Nat.max_le.mpr ⟨h d List.mem_cons_self, depths_of fun e he => h e (List.mem_cons_of_mem _ he)⟩
theorem pl_plain : ∀ {k : Nat} {d : PyData}, Pl k d → noDct d = true ∧ d.canLay0 = true ∧ d.depth ≤ k + 1
  | k, .int i, _ => ⟨rfl, rfl, by simp [PyData.depth]⟩
  | k, .str x, h => by
    have h' : x.length ≤ 8 ∧ ∀ c ∈ x.cps.toList, c < 200 := by cases k <;> exact h
    refine ⟨rfl, ?_, by simp [PyData.depth]⟩
    show PyData.strOk x = true
    unfold PyData.strOk
    rw [Array.all_eq_true]
    intro i hi
    have := h'.2 _ (Array.mem_toList_iff.mpr (Array.getElem_mem hi))
    simp
    omega
  | 0, .tuple ds, h => h.elim
  | k + 1, .tuple ds, h => by
    refine ⟨?_, ?_, ?_⟩
    · rw [noDct]; exact noDcts_of fun d hd => (pl_plain (h.2 d hd)).1
    · rw [PyData.canLay0]; exact lays_of fun d hd => (pl_plain (h.2 d hd)).2.1
    · rw [PyData.depth]
      have := depths_of (m := k + 1) fun d hd => (pl_plain (h.2 d hd)).2.2
      omega
  | 0, .none, h => h.elim
  | 0, .bool _, h => h.elim
  | 0, .list _, h => h.elim
  | 0, .dict _, h => h.elim
  | k + 1, .none, h => h.elim
  | k + 1, .bool _, h => h.elim
  | k + 1, .list _, h => h.elim
  | k + 1, .dict _, h => h.elim
theorem ne_empty {k : Nat} {ds : List PyData} (h : Pl k (.tuple ds)) (hk : k ≤ 60) : gNe (.tuple ds) (.tuple []) = some (.bool (!ds.isEmpty)) := by
  obtain ⟨h1, h2, h3⟩ := pl_plain h
  have sh : SeqAt.shaped (.tuple ds) = true := by
    unfold SeqAt.shaped
    rw [h2, Bool.true_and]
    exact decide_eq_true (by omega)
  have e : PyData.eqv (.tuple ds) (.tuple []) = ds.isEmpty := by cases ds <;> rfl
  unfold gNe
  rw [if_neg (by simp [isStrD]), if_pos ⟨⟨h1, rfl⟩, sh, by decide⟩, e]

def tailB : DS := (sSeq (sSet 7 (dL (fLst (aCons (dOp gAdd (dSl (dVar 1) oN (oS (dVar 5))) (dSl (dVar 1) (oS (dOp gAdd (dVar 5) (dC (.int 1)))) oN)) (aCons (dOp gAdd (dSl (dVar 1) oN (oS (dOp gAdd (dVar 5) (dC (.int 1))))) (dSl (dVar 1) (oS (dVar 5)) oN)) aNil)))))
  (sSeq (sSet 7 (dOp gAdd (dVar 7) (dL (fLst (aCons (dOp gAdd (dOp gAdd (dSl (dVar 1) oN (oS (dVar 5))) (dTup (aCons (dVar 4) aNil))) (dSl (dVar 1) (oS (dVar 5)) oN)) (aCons (dUn gRev (dVar 1)) (aCons (dB gList (aCons (dVar 1) aNil)) aNil)))))))
  (sRet (dOp gIx (dOp gAdd (dVar 7) (dL (fLst (aCons (dOp gAdd (dSl (dVar 1) (oS (dVar 5)) oN) (dSl (dVar 1) oN (oS (dVar 5)))) (aCons (dOp gAdd (dVar 1) (dTup (aCons (dVar 4) aNil))) (aCons (dVar 4) aNil)))))) (dVar 3)))))
theorem tail_ok {j n : Nat} {ds p : List PyData} {odd : PyData} {z w at_ : Int} {s : Sl} (hs : s = [.pot 0 p, .dat (.tuple ds), .dat (.int z), .dat (.int w), .dat odd, .dat (.int at_), .no, .no]) (few : ds.length ≤ 6) (el : ∀ d ∈ ds, Pl j d) (fo : Fit 2 odd) (hp : Pot n p) (w0 : 0 ≤ w) (w1 : w < 8) :
    Gs (tailB s) (fun s => ∃ pd', potOf s[0]? = some pd' ∧ Fit (j + 1 + 2) PyData.none ∧ Pot n pd') fun d s => ∃ pd', potOf s[0]? = some pd' ∧ Fit (j + 1 + 2) d ∧ Pot n pd' := by
  subst hs
  unfold tailB
  have inn : ∀ d ∈ ds, Fit (j + 2) d := fun d hd => fit_le (fit_pl (el d hd)) (by omega)
  have fo' : Fit (j + 2) odd := fit_le fo (by omega)
  decreasing_trivial
  refine sl_tup fun a1 la1 ma1 => ?_
  decreasing_trivial
  refine sl_tup fun a2 la2 ma2 => ?_
  refine cat_tup (by omega) ?_
  decreasing_trivial
  refine sl_tup fun a3 la3 ma3 => ?_
  decreasing_trivial
  refine sl_tup fun a4 la4 ma4 => ?_
  refine cat_tup (by omega) ?_
  decreasing_trivial
  refine sl_tup fun a5 la5 ma5 => ?_
  decreasing_trivial
  refine cat_tup (by show _ + 1 ≤ _; omega) ?_
  decreasing_trivial
  refine sl_tup fun a6 la6 ma6 => ?_
  refine cat_tup (by rw [List.length_append]; show _ + 1 + _ ≤ _; omega) ?_
  decreasing_trivial
  refine gd (a := .tuple ds.reverse) rfl ?_
  decreasing_trivial
  refine gd (a := .list ds) rfl ?_
  decreasing_trivial
  refine cat_list (by show 2 + 3 ≤ _; decide) ?_
  decreasing_trivial
  refine sl_tup fun a7 la7 ma7 => ?_
  decreasing_trivial
  refine sl_tup fun a8 la8 ma8 => ?_
  refine cat_tup (by omega) ?_
  decreasing_trivial
  refine cat_tup (by show _ + 1 ≤ _; omega) ?_
  decreasing_trivial
  refine cat_list (by show 5 + 3 ≤ _; decide) ?_
  decreasing_trivial
  refine ix_list _ w0 (by exact w1) fun d hd => ?_
  refine ⟨_, rfl, ?_, hp⟩
  have of2 : ∀ {x y : List PyData}, (∀ d ∈ x, d ∈ ds) → (∀ d ∈ y, d ∈ ds) → ∀ d ∈ x ++ y, Fit (j + 2) d := fun h1 h2 d hd => by
    rcases List.mem_append.mp hd with q | q
    · exact inn d (h1 d q)
    · exact inn d (h2 d q)
  simp only [List.mem_append, List.mem_cons, List.not_mem_nil, or_false] at hd
  rcases hd with ((rfl | rfl) | rfl | rfl | rfl) | rfl | rfl | rfl
  · exact fit_tup (by rw [List.length_append]; omega) (of2 ma1 ma2)
  · exact fit_tup (by rw [List.length_append]; omega) (of2 ma3 ma4)
  · refine fit_tup (by rw [List.length_append, List.length_append, List.length_singleton]; omega) fun d hd => ?_
    rcases List.mem_append.mp hd with q | q
    · rcases List.mem_append.mp q with q | q
      · exact inn d (ma5 d q)
      · rw [List.mem_singleton.mp q]; exact fo'
    · exact inn d (ma6 d q)
  · exact fit_tup (by rw [List.length_reverse]; omega) fun d hd => inn d (List.mem_reverse.mp hd)
  · exact fit_lst (by omega) inn
  · exact fit_tup (by rw [List.length_append]; omega) (of2 ma7 ma8)
  · refine fit_tup (by rw [List.length_append, List.length_singleton]; omega) fun d hd => ?_
    rcases List.mem_append.mp hd with q | q
    · exact inn d q
    · rw [List.mem_singleton.mp q]; exact fo'
  · exact fit_le fo (by omega)
theorem fit_cat {k : Nat} {x y : Str} (hx : x.length ≤ 9 ∧ ∀ c ∈ x.cps.toList, c < 200) (hy : y.length ≤ 9 ∧ ∀ c ∈ y.cps.toList, c < 200) : Fit k (.str (x ++ y)) := fit_str k ⟨by rw [len_cat]; omega, fun c hc => by
  rw [cps_cat] at hc
  exact (List.mem_append.mp hc).elim (hx.2 c) (hy.2 c)⟩
end K04

namespace K04
open PySem PySem.Spec PyProof.Rows L2 Dl
/-! ### what repr writes is short -/
def roomOf : Nat → Nat
  | 0 => 20002
  | k + 1 => 20 * (roomOf k + 2) + 4
theorem room_least : ∀ k, 20002 ≤ roomOf k
  | 0 => Nat.le_refl _
  | k + 1 => by
    have := room_least k
    rw [roomOf]; omega
theorem piled_few {m : Nat} : ∀ ts : List Str, (∀ t ∈ ts, t.length ≤ m) → piled ts ≤ ts.length * (m + 2)
  | [], _ => by rw [piled_nil]; omega
  | t :: r, h => by
    have a := h t List.mem_cons_self
    have b := piled_few r fun x hx => h x (List.mem_cons_of_mem _ hx)
    rw [piled_cons, List.length_cons, Nat.add_mul]
    omega
theorem join_few (ts : List Str) : (Str.join ", " ts).length ≤ piled ts := by
  by_cases h : ts = []
  · subst h
    exact Nat.le_refl 0
  · have := join_length_add ts h
    omega
theorem from_few : ∀ (ts : List Str) (k : Nat) (acc : Str), (textFrom k acc ts).length ≤ acc.length + piled ts
  | [], k, acc => by rw [textFrom, piled_nil]; omega
  | t :: r, k, acc => by
    have a := from_few r (k + 1) (acc ++ (if k > 0 then ", " else "" : String) ++ t)
    have l : ((if k > 0 then ", " else "" : String) : Str).length ≤ 2 := by split <;> decide
    rw [len_cat, len_cat] at a
    rw [textFrom, piled_cons]
    omega
theorem tup_few (ts : List Str) : (tupleText ts).length ≤ piled ts + 4 := by
  unfold tupleText
  rw [len_cat, len_cat]
  have a := join_few ts
  have e1 : ((("(" : String) : Str)).length = 1 := rfl
  have e3 : (((if ts.length == 1 then ",)" else ")" : String) : Str)).length ≤ 2 := by split <;> decide
  omega
theorem list_few (ts : List Str) : (listText ts).length ≤ piled ts + 4 := by
  unfold listText
  rw [len_cat]
  have a := from_few ts 0 "["
  have e1 : ((("[" : String) : Str)).length = 1 := rfl
  have e2 : ((("]" : String) : Str)).length = 1 := rfl
  omega
theorem shown_all : ∀ ds : List PyData, PyData.shownAll ds = ds.map PyData.shown
  | [] => by rw [PyData.shownAll]; rfl
  | d :: r => by rw [PyData.shownAll, shown_all r]; rfl
theorem room_up {k : Nat} {ds : List PyData} (l : ds.length ≤ 20) (h : ∀ d ∈ ds, d.shown.length ≤ roomOf k) : piled (PyData.shownAll ds) + 4 ≤ roomOf (k + 1) := by
  have a := piled_few (m := roomOf k) (PyData.shownAll ds) fun t ht => by
    rw [shown_all] at ht
    obtain ⟨d, hd, rfl⟩ := List.mem_map.mp ht
    exact h d hd
  rw [shown_all, List.length_map] at a
  rw [shown_all, roomOf]
  have b : ds.length * (roomOf k + 2) ≤ 20 * (roomOf k + 2) := Nat.mul_le_mul_right _ l
  omega
theorem fit_room : ∀ {k : Nat} {d : PyData}, Fit k d → d.shown.length ≤ roomOf k
  | k, .none, _ => Nat.le_trans (by simp only [PyData.shown]; decide) (room_least k)
  | k, .bool b, _ => Nat.le_trans (by simp only [PyData.shown]; cases b <;> decide) (room_least k)
  | k, .int i, h => by
    have h' : i.natAbs < 2 ^ 200 := by cases k <;> exact h
    have l : i.natAbs.log2 < 200 := by
      by_cases z : i.natAbs = 0
      · rw [z]; decide
      · exact (Nat.log2_lt z).mpr h'
    have a := int_text_length_le (by decide) l
    refine Nat.le_trans ?_ (room_least k)
    simp only [PyData.shown]
    rw [PySem.ofString_length]
    omega
  | k, .str x, h => by
    have h' : x.length ≤ 2000 ∧ ∀ c ∈ x.cps.toList, c < 200 := by cases k <;> exact h
    have a := PySem.StrLaws.reprText_len x fun c hc => Nat.lt_of_lt_of_le (h'.2 c hc) (by decide)
    refine Nat.le_trans ?_ (room_least k)
    simp only [PyData.shown]
    omega
  | k, .dict kvs, h => by
    have e : kvs = [] := by cases k <;> exact h
    subst e
    refine Nat.le_trans ?_ (room_least k)
    simp only [PyData.shown, PyData.shownKv]
    decide
  | 0, .list ds, h => h.elim
  | 0, .tuple ds, h => h.elim
  | k + 1, .list ds, h => by
    simp only [PyData.shown]
    exact Nat.le_trans (list_few _) (room_up h.1 fun d hd => fit_room (h.2 d hd))
  | k + 1, .tuple ds, h => by
    simp only [PyData.shown]
    exact Nat.le_trans (tup_few _) (room_up h.1 fun d hd => fit_room (h.2 d hd))
theorem showables_of : ∀ {ds : List PyData}, (∀ d ∈ ds, d.showable = true) → PyData.showableAll ds = true
  | [], _ => by rw [PyData.showableAll]
  | d :: r, h => by rw [PyData.showableAll, h d List.mem_cons_self, showables_of fun e he => h e (List.mem_cons_of_mem _ he)]; rfl
theorem reals_of : ∀ {ds : List PyData}, (∀ d ∈ ds, realAll d = true) → realAlls ds = true
  | [], _ => by rw [realAlls]
  | d :: r, h => by rw [realAlls, h d List.mem_cons_self, reals_of fun e he => h e (List.mem_cons_of_mem _ he)]; rfl
theorem fit_shows : ∀ {k : Nat} {d : PyData}, Fit k d → d.showable = true ∧ realAll d = true ∧ d.depth ≤ k + 1
  | k, .none, _ => ⟨by rw [PyData.showable], by simp [realAll], by simp [PyData.depth]⟩
  | k, .bool b, _ => ⟨by rw [PyData.showable], by simp [realAll], by simp [PyData.depth]⟩
  | k, .int i, h => by
    have h' : i.natAbs < 2 ^ 200 := by cases k <;> exact h
    refine ⟨?_, by simp [realAll], by simp [PyData.depth]⟩
    rw [PyData.showable]
    refine decide_eq_true ?_
    by_cases z : i.natAbs = 0
    · rw [z]; decide
    · exact Nat.lt_of_lt_of_le ((Nat.log2_lt z).mpr h') (by decide)
  | k, .str x, h => ⟨by rw [PyData.showable], by simp [realAll], by simp [PyData.depth]⟩
  | k, .dict kvs, h => by
    have e : kvs = [] := by cases k <;> exact h
    subst e
    exact ⟨by rw [PyData.showable, PyData.showableKv], by rw [realAll, realKvs], by simp [PyData.depth, PyData.depthKv]⟩
  | 0, .list ds, h => h.elim
  | 0, .tuple ds, h => h.elim
  | k + 1, .list ds, h => by
    refine ⟨?_, ?_, ?_⟩
    · rw [PyData.showable]; exact showables_of fun d hd => (fit_shows (h.2 d hd)).1
    · rw [realAll]; exact reals_of fun d hd => (fit_shows (h.2 d hd)).2.1
    · rw [PyData.depth]
      have := depths_of (m := k + 1) fun d hd => (fit_shows (h.2 d hd)).2.2
      omega
  | k + 1, .tuple ds, h => by
    refine ⟨?_, ?_, ?_⟩
    · rw [PyData.showable]; exact showables_of fun d hd => (fit_shows (h.2 d hd)).1
    · rw [realAll]; exact reals_of fun d hd => (fit_shows (h.2 d hd)).2.1
    · rw [PyData.depth]
      have := depths_of (m := k + 1) fun d hd => (fit_shows (h.2 d hd)).2.2
      omega
theorem repr_fit {d : PyData} (h : Fit 2 d) : gRepr [d] = some (.str d.shown) := by
  obtain ⟨h1, h2, h3⟩ := fit_shows h
  have h4 := fit_room h
  have h5 : roomOf 2 ≤ sizeLine := by decide
  unfold gRepr
  simp only [h1, h2, Bool.true_and]
  rw [if_pos]
  rw [Bool.and_eq_true]
  exact ⟨decide_eq_true (Nat.le_trans h4 h5), decide_eq_true (by omega)⟩
end K04

namespace K04
open PySem PySem.Spec PyProof.Rows L2 Dl TL
/-! ### texts and their words -/
theorem spl_sp (c : Nat) (r acc : List Nat) : spl [32] 0 acc (c :: r) = if c = 32 then acc :: spl [32] 0 [] r else spl [32] 0 (acc ++ [c]) r := by
  show (if pre [32] (c :: r) = true then acc :: spl [32] 0 [] r else spl [32] 0 (acc ++ [c]) r) = _
  have e : pre [32] (c :: r) = decide (c = 32) := by
    show ([c] == [32]) = _
    by_cases h : c = 32
    · subst h; rfl
    · have : ([c] == [32]) = false := by
        rw [beq_eq_false_iff_ne]
        intro z
        exact h (List.cons.inj z).1
      rw [this, decide_eq_false h]
  rw [e]
  by_cases h : c = 32
  · simp [h]
  · simp [h]
theorem spl_ne : ∀ (l acc : List Nat), spl [32] 0 acc l ≠ []
  | [], acc => by rw [spl_nil]; simp
  | c :: r, acc => by
    rw [spl_sp]
    split
    · simp
    · exact spl_ne r _
theorem spl_back : ∀ (l acc : List Nat), joinL [32] (spl [32] 0 acc l) = acc ++ l
  | [], acc => by rw [spl_nil]; show acc = acc ++ []; rw [List.append_nil]
  | c :: r, acc => by
    rw [spl_sp]
    split
    · rename_i h
      subst h
      have ih := spl_back r []
      cases q : spl [32] 0 [] r with
      | nil => exact absurd q (spl_ne r [])
      | cons z zs =>
        rw [q] at ih
        show acc ++ ([32] ++ joinL [32] (z :: zs)) = _
        rw [ih]
        rfl
    · rw [spl_back r _, List.append_assoc]
      rfl
theorem spl_len : ∀ (l acc : List Nat), (spl [32] 0 acc l).length = l.count 32 + 1
  | [], acc => by rw [spl_nil]; rfl
  | c :: r, acc => by
    rw [spl_sp]
    split
    · rename_i h
      subst h
      rw [List.length_cons, spl_len r [], List.count_cons_self]
    · rename_i h
      rw [spl_len r _, List.count_cons_of_ne h]
def sumL (ps : List (List Nat)) : Nat := (ps.map List.length).sum
theorem spl_parts : ∀ (l acc : List Nat), 32 ∉ acc → (∀ p ∈ spl [32] 0 acc l, 32 ∉ p ∧ ∀ c ∈ p, c ∈ acc ∨ c ∈ l) ∧ sumL (spl [32] 0 acc l) ≤ acc.length + l.length
  | [], acc, h => by
    rw [spl_nil]
    refine ⟨fun p hp => ?_, ?_⟩
    · rw [List.mem_singleton] at hp
      subst hp
      exact ⟨h, fun c hc => .inl hc⟩
    · simp [sumL]
  | c :: r, acc, h => by
    rw [spl_sp]
    split
    · rename_i hc
      obtain ⟨a, b⟩ := spl_parts r [] (by simp)
      refine ⟨fun p hp => ?_, ?_⟩
      · rcases List.mem_cons.mp hp with rfl | hp
        · exact ⟨h, fun c hc => .inl hc⟩
        · obtain ⟨a1, a2⟩ := a p hp
          exact ⟨a1, fun d hd => (a2 d hd).elim (fun z => by cases z) fun z => .inr (List.mem_cons_of_mem _ z)⟩
      · unfold sumL at b ⊢
        rw [List.map_cons, List.sum_cons]
        simp only [List.length_cons, List.length_nil] at b ⊢
        omega
    · rename_i hc
      obtain ⟨a, b⟩ := spl_parts r (acc ++ [c]) (by simp [h, Ne.symm hc])
      refine ⟨fun p hp => ?_, ?_⟩
      · obtain ⟨a1, a2⟩ := a p hp
        refine ⟨a1, fun d hd => ?_⟩
        rcases a2 d hd with z | z
        · rcases List.mem_append.mp z with z | z
          · exact .inl z
          · rw [List.mem_singleton] at z
            subst z
            exact .inr List.mem_cons_self
        · exact .inr (List.mem_cons_of_mem _ z)
      · rw [List.length_append] at b
        simp only [List.length_cons, List.length_nil] at b ⊢
        omega
abbrev sp : Str := " "
def W (x : Str) : List Str := Txt.split x sp
theorem sp_tl : tl sp = [32] := by decide +kernel
theorem W_tl (x : Str) : (W x).map tl = spl [32] 0 [] (tl x) := by
  have e := split_spl x sp (by rw [sp_tl]; simp) (TL.kind_ok (by decide +kernel))
  rw [sp_tl] at e
  exact e
theorem W_back (x : Str) : Txt.join sp (W x) = x := by
  apply ext_tl
  rw [join_eq, tl_join, W_tl, sp_tl, spl_back]
  rfl
theorem W_ne (x : Str) : W x ≠ [] := fun e => by
  have := W_tl x
  rw [e] at this
  exact spl_ne _ _ this.symm
/-- a text of at most n signs, b blanks -/
structure TX (n b : Nat) (x : Str) : Prop where
  len : (tl x).length ≤ n
  sg : ∀ c ∈ tl x, c < 200
  bl : (tl x).count 32 ≤ b
/-- words of at most n signs in all, k of them -/
structure WS (n k : Nat) (ws : List Str) : Prop where
  len : sumL (ws.map tl) ≤ n
  few : ws.length ≤ k
  sg : ∀ w ∈ ws, ∀ c ∈ tl w, c < 200
  nb : ∀ w ∈ ws, 32 ∉ tl w
theorem TX.words {n b : Nat} {x : Str} (h : TX n b x) : WS n (b + 1) (W x) := by
  obtain ⟨p1, p2⟩ := spl_parts (tl x) [] (by simp)
  have l := spl_len (tl x) []
  rw [← W_tl] at p1 p2 l
  rw [List.length_map] at l
  refine ⟨by have := h.len; simp only [List.length_nil] at p2; omega, by have := h.bl; omega, fun w hw c hc => ?_, fun w hw => (p1 _ (List.mem_map_of_mem hw)).1⟩
  exact h.sg c (((p1 _ (List.mem_map_of_mem hw)).2 c hc).elim (fun z => by cases z) id)
theorem sum_ge : ∀ {ps : List (List Nat)} {p : List Nat}, p ∈ ps → p.length ≤ sumL ps
  | q :: r, p, h => by
    unfold sumL
    rw [List.map_cons, List.sum_cons]
    rcases List.mem_cons.mp h with rfl | h
    · omega
    · have := sum_ge h
      unfold sumL at this
      omega
theorem WS.one {n k : Nat} {ws : List Str} (h : WS n k ws) {w : Str} (hw : w ∈ ws) : (tl w).length ≤ n := Nat.le_trans (sum_ge (List.mem_map_of_mem hw)) h.len
theorem sumL_app (a b : List (List Nat)) : sumL (a ++ b) = sumL a + sumL b := by
  unfold sumL
  rw [List.map_append, List.sum_append]
theorem sumL_take (a : List (List Nat)) (k : Nat) : sumL (a.take k) ≤ sumL a := by
  conv => rhs; rw [← List.take_append_drop k a]
  rw [sumL_app]
  omega
theorem sumL_drop (a : List (List Nat)) (k : Nat) : sumL (a.drop k) ≤ sumL a := by
  conv => rhs; rw [← List.take_append_drop k a]
  rw [sumL_app]
  omega
theorem sumL_td (a : List (List Nat)) (k j : Nat) (h : k ≤ j) : sumL (a.take k) + sumL (a.drop j) ≤ sumL a := by
  have e : a.drop j = (a.drop k).drop (j - k) := by rw [List.drop_drop]; congr 1; omega
  rw [e]
  have d := sumL_drop (a.drop k) (j - k)
  have t : sumL a = sumL (a.take k) + sumL (a.drop k) := by
    conv => lhs; rw [← List.take_append_drop k a]
    rw [sumL_app]
  omega
theorem sumL_set (a : List (List Nat)) (k : Nat) (p : List Nat) : sumL (a.set k p) ≤ sumL a + p.length := by
  induction a generalizing k with
  | nil => simp [sumL]
  | cons q r ih =>
    cases k with
    | zero => simp [sumL]; omega
    | succ k =>
      have := ih k
      unfold sumL at this ⊢
      simp only [List.set_cons_succ, List.map_cons, List.sum_cons]
      omega
theorem joinL_len : ∀ ps : List (List Nat), (joinL [32] ps).length ≤ sumL ps + ps.length
  | [] => Nat.zero_le _
  | [p] => by simp [joinL, sumL]
  | p :: q :: r => by
    have ih := joinL_len (q :: r)
    show (p ++ ([32] ++ joinL [32] (q :: r))).length ≤ _
    unfold sumL at ih ⊢
    rw [List.length_append, List.length_append, List.map_cons, List.sum_cons, List.length_cons]
    simp only [List.length_cons, List.length_nil] at ih ⊢
    omega
theorem joinL_sg : ∀ ps : List (List Nat), (∀ p ∈ ps, ∀ c ∈ p, c < 200) → ∀ c ∈ joinL [32] ps, c < 200
  | [], _, c, hc => by cases hc
  | [p], h, c, hc => h p List.mem_cons_self c hc
  | p :: q :: r, h, c, hc => by
    have hc : c ∈ p ++ ([32] ++ joinL [32] (q :: r)) := hc
    rcases List.mem_append.mp hc with z | z
    · exact h p List.mem_cons_self c z
    · rcases List.mem_append.mp z with z | z
      · rw [List.mem_singleton] at z; omega
      · exact joinL_sg (q :: r) (fun p hp => h p (List.mem_cons_of_mem _ hp)) c z
theorem joinL_bl : ∀ ps : List (List Nat), (∀ p ∈ ps, 32 ∉ p) → (joinL [32] ps).count 32 ≤ ps.length - 1
  | [], _ => Nat.zero_le _
  | [p], h => by
    show p.count 32 ≤ 0
    rw [List.count_eq_zero.mpr (h p List.mem_cons_self)]
    exact Nat.le_refl 0
  | p :: q :: r, h => by
    have ih := joinL_bl (q :: r) fun p hp => h p (List.mem_cons_of_mem _ hp)
    show (p ++ ([32] ++ joinL [32] (q :: r))).count 32 ≤ _
    rw [List.count_append, List.count_append, List.count_eq_zero.mpr (h p List.mem_cons_self)]
    simp only [List.count_singleton_self, List.length_cons] at ih ⊢
    omega
theorem WS.text {n k : Nat} {ws : List Str} (h : WS n k ws) : TX (n + k) (k - 1) (Txt.join sp ws) := by
  have e : tl (Txt.join sp ws) = joinL [32] (ws.map tl) := by rw [join_eq, tl_join, sp_tl]
  refine ⟨?_, ?_, ?_⟩
  · rw [e]
    have a := joinL_len (ws.map tl)
    rw [List.length_map] at a
    have b := h.len
    have c := h.few
    omega
  · rw [e]
    exact joinL_sg _ fun p hp => by
      obtain ⟨w, hw, rfl⟩ := List.mem_map.mp hp
      exact h.sg w hw
  · rw [e]
    have a := joinL_bl (ws.map tl) fun p hp => by
      obtain ⟨w, hw, rfl⟩ := List.mem_map.mp hp
      exact h.nb w hw
    rw [List.length_map] at a
    have c := h.few
    omega
theorem TX.mono {n b m k : Nat} {x : Str} (h : TX n b x) (h1 : n ≤ m) (h2 : b ≤ k) : TX m k x := ⟨Nat.le_trans h.len h1, h.sg, Nat.le_trans h.bl h2⟩
theorem WS.mono {n b m k : Nat} {x : List Str} (h : WS n b x) (h1 : n ≤ m) (h2 : b ≤ k) : WS m k x := ⟨Nat.le_trans h.len h1, Nat.le_trans h.few h2, h.sg, h.nb⟩
theorem TX.cat {n b m k : Nat} {x y : Str} (h : TX n b x) (g : TX m k y) : TX (n + m) (b + k) (x ++ y) := by
  refine ⟨?_, fun c hc => ?_, ?_⟩
  · rw [tl_append, List.length_append]; have := h.len; have := g.len; omega
  · rw [tl_append] at hc
    exact (List.mem_append.mp hc).elim (h.sg c) (g.sg c)
  · rw [tl_append, List.count_append]; have := h.bl; have := g.bl; omega
theorem TX.fit {n b : Nat} {x : Str} (h : TX n b x) (hn : n ≤ 2000) (k : Nat) : Fit k (.str x) := fit_str k ⟨by rw [len_tl]; have := h.len; omega, h.sg⟩
theorem fit_len {k : Nat} {x : Str} (h : Fit k (.str x)) : x.length ≤ 2000 := by cases k <;> exact h.1
/-- a written text -/
theorem tx_lit {x : Str} (n b : Nat) (h : (decide ((tl x).length ≤ n) && ((tl x).all (fun c => decide (c < 200)) && decide ((tl x).count 32 ≤ b))) = true) : TX n b x := by
  simp only [Bool.and_eq_true, decide_eq_true_eq, List.all_eq_true] at h
  exact ⟨h.1, h.2.1, h.2.2⟩

/-! ### cuts by numbers -/
theorem sIx_pos (n d : Nat) {v : Int} (h : 0 ≤ v) : HT.sIx n d (some v) = min v.toNat n := by
  show (if v < 0 then _ else _) = _
  rw [if_neg (by omega)]
theorem take_min {α : Type} (l : List α) (v : Nat) : l.take (min v l.length) = l.take v := by
  by_cases h : v ≤ l.length
  · rw [Nat.min_eq_left h]
  · rw [Nat.min_eq_right (by omega), List.take_length, List.take_of_length_le (by omega)]
theorem sl_take {x : Str} {v : Int} {D : PyData → Prop} (few : x.length ≤ 100000) (h : 0 ≤ v) (k : D (.str ⟨((tl x).take v.toNat).toArray⟩)) : Gd (gSl (.str x) none (some v)) D := by
  refine gd (show (if x.length ≤ sizeLine then _ else _) = _ from if_pos (Nat.le_trans few (by decide))) ?_
  have e : cutS x none (some v) = ⟨((tl x).take v.toNat).toArray⟩ := by
    unfold cutS
    rw [HT.sIx_none, sIx_pos _ _ h, List.drop_zero, Nat.sub_zero]
    congr 2
    rw [len_tl]
    exact take_min _ _
  rw [e]; exact k
theorem sl_drop {x : Str} {v : Int} {D : PyData → Prop} (few : x.length ≤ 100000) (h : 0 ≤ v) (k : D (.str ⟨((tl x).drop v.toNat).toArray⟩)) : Gd (gSl (.str x) (some v) none) D := by
  refine gd (show (if x.length ≤ sizeLine then _ else _) = _ from if_pos (Nat.le_trans few (by decide))) ?_
  have e : cutS x (some v) none = ⟨((tl x).drop v.toNat).toArray⟩ := by
    unfold cutS
    rw [HT.sIx_none, sIx_pos _ _ h]
    congr 2
    rw [len_tl]
    by_cases c : v.toNat ≤ (tl x).length
    · rw [Nat.min_eq_left c, List.take_of_length_le (by rw [List.length_drop]; exact Nat.le_refl _)]
    · rw [Nat.min_eq_right (by omega), List.drop_length, List.drop_of_length_le (by omega)]
      simp
  rw [e]; exact k
theorem cut_take (ds : List PyData) {v : Int} (h : 0 ≤ v) : cutD ds none (some v) = ds.take v.toNat := by
  unfold Dl.cutD
  rw [HT.sIx_none, sIx_pos _ _ h, List.drop_zero, Nat.sub_zero]
  exact take_min _ _
theorem cut_drop (ds : List PyData) {v : Int} (h : 0 ≤ v) : cutD ds (some v) none = ds.drop v.toNat := by
  unfold Dl.cutD
  rw [HT.sIx_none, sIx_pos _ _ h]
  by_cases c : v.toNat ≤ ds.length
  · rw [Nat.min_eq_left c, List.take_of_length_le (by rw [List.length_drop]; exact Nat.le_refl _)]
  · rw [Nat.min_eq_right (by omega), List.drop_length, List.drop_of_length_le (by omega)]
    simp
/-- the text x with the signs from i to j otherwise -/
theorem tx_mid {n b : Nat} {x : Str} (h : TX n b x) (i j : Nat) (l : i ≤ j) : TX n b (⟨((tl x).take i).toArray⟩ ++ ⟨((tl x).drop j).toArray⟩) := by
  have s : List.Sublist ((tl x).take i ++ (tl x).drop j) (tl x) := by
    have e : (tl x).drop j = ((tl x).drop i).drop (j - i) := by rw [List.drop_drop]; congr 1; omega
    rw [e]
    conv => rhs; rw [← List.take_append_drop i (tl x)]
    exact List.Sublist.append (List.Sublist.refl _) (List.drop_sublist _ _)
  have e : tl ((⟨((tl x).take i).toArray⟩ : Str) ++ ⟨((tl x).drop j).toArray⟩) = (tl x).take i ++ (tl x).drop j := by rw [tl_append]
  refine ⟨by rw [e]; exact Nat.le_trans s.length_le h.len, fun c hc => ?_, by rw [e]; exact Nat.le_trans (s.count_le 32) h.bl⟩
  rw [e] at hc
  exact h.sg c (s.subset hc)
theorem tx_mid1 {n b m k : Nat} {x z : Str} (h : TX n b x) (g : TX m k z) (i j : Nat) (l : i ≤ j) : TX (n + m) (b + k) (⟨((tl x).take i).toArray⟩ ++ z ++ ⟨((tl x).drop j).toArray⟩) := by
  have a := tx_mid h i j l
  refine ⟨?_, fun c hc => ?_, ?_⟩
  · have := a.len
    have := g.len
    rw [tl_append, List.length_append] at *
    rw [tl_append, List.length_append] at *
    omega
  · rw [tl_append, tl_append] at hc
    rcases List.mem_append.mp hc with z | z
    · rcases List.mem_append.mp z with z | z
      · exact a.sg c (by rw [tl_append]; exact List.mem_append_left _ z)
      · exact g.sg c z
    · exact a.sg c (by rw [tl_append]; exact List.mem_append_right _ z)
  · have := a.bl
    have := g.bl
    rw [tl_append, List.count_append] at *
    rw [tl_append, List.count_append] at *
    omega

/-! ### numbers in texts -/
def figB (c : Nat) : Bool := decide (48 ≤ c) && decide (c ≤ 57)
/-- what a text says as a number -/
def numB (x : Str) : Bool := (decide (1 ≤ (tl x).length) && decide ((tl x).length ≤ 7)) && ((tl x).all figB && (!(decide ((tl x).getD 0 0 = 48) && !decide (tl x = [48])) && decide (NumText.digitsVal (tl x) ≤ 1000000)))
def numD (x : Str) : PyData := if numB x = true then .int (NumText.digitsVal (tl x)) else .none
theorem figs_all {x : Str} (h : (tl x).all figB = true) : NumText.AllDigits (tl x) := fun c hc => by
  have := List.all_eq_true.mp h c hc
  unfold figB at this
  rw [Bool.and_eq_true, decide_eq_true_eq, decide_eq_true_eq] at this
  exact this
theorem int_figs {x : Str} (h : (tl x).all figB = true) (h1 : 1 ≤ (tl x).length) (h2 : (tl x).length ≤ 7) : gIntA [.str x] = some (.int (NumText.digitsVal (tl x))) := by
  have e := PySem.intText_digits (figs_all h) (fun z => by rw [show tl x = [] from z] at h1; simp at h1) (by rw [len_tl]; omega)
  unfold gIntA
  dsimp only
  rw [if_pos (by rw [len_tl]; omega), e]
  rfl
theorem num_text {x : Str} (h : numB x = true) : Str.ofString (toString ((NumText.digitsVal (tl x) : Nat) : Int)) = x := by
  unfold numB at h
  simp only [Bool.and_eq_true, decide_eq_true_eq, Bool.not_eq_true', Bool.and_eq_false_iff, decide_eq_false_iff_not, Bool.not_eq_false'] at h
  obtain ⟨⟨h1, h2⟩, h3, h4, h5⟩ := h
  apply ext_tl
  rw [tl_num]
  have ad := figs_all h3
  unfold numL
  cases hx : tl x with
  | nil => rw [hx] at h1; simp at h1
  | cons c r =>
    rw [hx] at ad h4
    have can : (r.length = 0 ∨ ∃ c' r', c :: r = c' :: r' ∧ 49 ≤ c') := by
      rcases h4 with z | z
      · right
        have := ad c List.mem_cons_self
        have z' : c ≠ 48 := z
        exact ⟨c, r, rfl, by omega⟩
      · left
        have := (List.cons.inj z).2
        rw [this]; rfl
    rw [NumText.toDigits_digitsVal r.length (c :: r) rfl ad can, List.map_map]
    conv => rhs; rw [← List.map_id (c :: r)]
    refine List.map_congr_left fun d hd => ?_
    have := ad d hd
    show (Char.ofNat d).toNat = d
    have v : d.isValidChar := Or.inl (by omega)
    simp [Char.ofNat, v, Char.toNat, Char.ofNatAux]
theorem num_back {n : Nat} (h : n ≤ 1000000) : numD (Str.ofString (toString ((n : Nat) : Int))) = .int n ∧ numB (Str.ofString (toString ((n : Nat) : Int))) = true := by
  have e : numB (Str.ofString (toString ((n : Nat) : Int))) = true := by
    unfold numB
    rw [tl_num]
    have l1 := numL_ne n
    have l2 : (numL n).length ≤ 7 := numL_len (by decide) (by omega)
    have l3 := numL_digits n
    have l4 := numL_val n
    simp only [Bool.and_eq_true, decide_eq_true_eq, Bool.not_eq_true', Bool.and_eq_false_iff, decide_eq_false_iff_not, Bool.not_eq_false', List.all_eq_true]
    refine ⟨⟨List.length_pos_iff.mpr l1, l2⟩, fun c hc => ?_, ?_, by rw [l4]; exact h⟩
    · unfold figB
      have := l3 c hc
      simp [this.1, this.2]
    · -- no nought ahead of others
      by_cases z : (numL n).getD 0 0 = 48
      · right
        have key : ∀ m : Nat, (numL m).getD 0 0 = 48 → m = 0 := fun m => by
          induction m using Nat.strongRecOn with
          | _ m ih =>
            intro hm
            by_cases lt : m < 10
            · rw [numL_lt lt] at hm
              have : 48 + m = 48 := hm
              omega
            · rw [numL_step (by omega)] at hm
              have ne := numL_ne (m / 10)
              cases q : numL (m / 10) with
              | nil => exact absurd q ne
              | cons c r =>
                rw [q] at hm
                have hm' : c = 48 := hm
                have := ih (m / 10) (by omega) (by rw [q]; exact hm')
                omega
        have := key n z
        subst this
        rw [numL_lt (by decide)]
      · exact .inl z
  refine ⟨?_, e⟩
  unfold numD
  rw [if_pos e, tl_num, numL_val]
end K04

namespace K04
open PySem PySem.Spec PyProof.Rows L2 Dl TL
local macro_rules | `(tactic| decreasing_trivial_pre_omega) => `(tactic| (first | with_reducible refine s_seq ?_ | with_reducible refine s_if ?_ | with_reducible refine s_set ?_ | with_reducible refine s_setIx ?_ | with_reducible refine s_ret ?_ | with_reducible refine s_nil ?_ | with_reducible refine s_own ?_ | with_reducible refine s_par ?_ | with_reducible refine t_tst ?_ | with_reducible refine t_and ?_ | with_reducible refine t_or ?_ | with_reducible refine t_not ?_ | with_reducible refine t_yes ?_ | with_reducible refine e_op ?_ | with_reducible refine e_un ?_ | with_reducible refine e_chain ?_ | with_reducible refine e_b ?_ | with_reducible refine e_c ?_ | with_reducible refine e_l ?_ | with_reducible refine e_tup ?_ | with_reducible refine e_call ?_ | with_reducible refine e_and ?_ | with_reducible refine e_or ?_ | with_reducible refine e_not ?_ | with_reducible refine e_if ?_ | with_reducible refine e_sl ?_ | with_reducible refine o_n ?_ | with_reducible refine o_s ?_ | with_reducible refine a_nil ?_ | with_reducible refine a_cons ?_ | with_reducible refine f_lst ?_ | with_reducible refine f_call ?_ | with_reducible refine f_itA ?_ | with_reducible refine f_r1 ?_ | with_reducible refine r_seq ?_ | with_reducible refine n_add ?_ | with_reducible refine n_sub ?_ | with_reducible refine n_gt ?_ | with_reducible refine n_ge ?_ | with_reducible refine n_lt ?_ | with_reducible refine n_le ?_ | with_reducible refine e_var (by with_unfolding_all rfl) ?_ | with_reducible refine e_ixc (by with_unfolding_all rfl) ?_ | with_reducible refine e_callM (by with_unfolding_all rfl) ?_ | with_reducible refine s_frz (by with_unfolding_all rfl) ?_ | with_reducible refine s_app (by with_unfolding_all rfl) ?_ | with_reducible refine few_and (by first | decide | (simp only [List.length_cons, List.length_nil, Nat.reduceAdd, Nat.reduceLeDiff])) ?_ | refine Or.inl ⟨by first | with_reducible rfl | with_reducible exact Bool.not_false, ?_⟩ | refine Or.inr ⟨by first | with_reducible rfl | with_reducible exact Bool.not_true, ?_⟩ | refine Exists.intro _ (Exists.intro _ ⟨rfl, rfl, gd rfl ?_⟩) | refine Exists.intro _ ⟨rfl, ?_⟩))
local macro_rules | `(tactic| decreasing_trivial) => `(tactic| repeat decreasing_trivial_pre_omega)
theorem figs_range : (("0123456789" : Str)).cps.toList = List.range' 48 10 := by decide +kernel
theorem in_figs (c : Nat) : gIn false (.str ⟨#[c]⟩) d_FIGURES = some (.bool (figB c)) := by
  have e : decide (c ∈ (("0123456789" : Str)).cps.toList) = figB c := by
    rw [figs_range]
    unfold figB
    rw [← Bool.decide_and]
    refine decide_eq_decide.mpr ?_
    rw [List.mem_range'_1]
    omega
  rw [← e]
  rfl
def figD : PyData → PyData
  | .str z => .bool (figB (z.cps.getD 0 0))
  | _ => .none
def oddF : PyData → Bool
  | .str z => !figB (z.cps.getD 0 0)
  | _ => false
theorem le_0 (c : Nat) : gLe (.str "0") (.str ⟨#[c]⟩) = some (.bool (decide (48 ≤ c))) := by
  have e : (!decide ([c] < [48])) = decide (48 ≤ c) := by
    rw [← decide_not]
    exact decide_eq_decide.mpr ⟨fun q => by rw [one_lt] at q; omega, fun q => by rw [one_lt]; omega⟩
  rw [← e]
  rfl
theorem le_9 (c : Nat) : gLe (.str ⟨#[c]⟩) (.str "9") = some (.bool (decide (c ≤ 57))) := by
  have e : (!decide ([57] < [c])) = decide (c ≤ 57) := by
    rw [← decide_not]
    exact decide_eq_decide.mpr ⟨fun q => by rw [one_lt] at q; omega, fun q => by rw [one_lt]; omega⟩
  rw [← e]
  rfl
theorem ne_none_left (cs : List Nat) (h : ∀ c ∈ cs, c < 200) : gNe (.list (cs.map fun c => .str ⟨#[c]⟩)) (.list []) = some (.bool (!cs.isEmpty)) := by
  have d := signs_depth cs
  have sh : SeqAt.shaped (.list (cs.map fun c => .str ⟨#[c]⟩)) = true := by
    unfold SeqAt.shaped
    rw [PyData.canLay0, signs_lay cs h, PyData.depth, Bool.true_and]
    exact decide_eq_true (by omega)
  have e : PyData.eqv (.list (cs.map fun c => .str ⟨#[c]⟩)) (.list []) = cs.isEmpty := by
    cases cs <;> rfl
  unfold gNe
  rw [if_neg (by simp [isStrD]), if_pos ⟨⟨by simp only [noDct]; exact signs_noDct cs, rfl⟩, sh, by decide⟩, e]
theorem str_eqv (x y : Str) : PyData.eqv (.str x) (.str y) = decide (tl x = tl y) := by
  show (x == y) = _
  by_cases h : tl x = tl y
  · rw [decide_eq_true h, ext_tl h, beq_self_eq_true]
  · rw [decide_eq_false h, beq_eq_false_iff_ne]
    exact fun z => h (by rw [z])
theorem eq_text (x y : Str) : gEq (.str x) (.str y) = some (.bool (decide (tl x = tl y))) := by
  rw [← str_eqv]
  unfold gEq
  rw [if_pos ⟨rfl, rfl⟩]
theorem ne_text' (x y : Str) : gNe (.str x) (.str y) = some (.bool (!decide (tl x = tl y))) := by
  rw [← str_eqv]
  unfold gNe
  rw [if_pos ⟨rfl, rfl⟩]
theorem first_sign {x : Str} (h1 : 1 ≤ (tl x).length) (h2 : x.length ≤ 2000) : gIx (.str x) (.int 0) = some (.str ⟨#[(tl x).getD 0 0]⟩) := by
  show (if x.length ≤ sizeLine then (atI x.cps.toList 0).map (fun c => PyData.str ⟨#[c]⟩) else none) = _
  rw [if_pos (Nat.le_trans h2 (by decide))]
  show (atI (tl x) 0).map _ = _
  cases q : tl x with
  | nil => rw [q] at h1; simp at h1
  | cons c r => simp [atI, ixN]
theorem len_fit {k : Nat} {x : Str} (h : Fit k (.str x)) : gLen [.str x] = some (.int (x.length : Nat)) := by
  unfold gLen
  exact if_pos (Nat.le_trans (fit_len h) (by decide))
theorem numB_in {x : Str} (l1 : 1 ≤ x.length) (l2 : x.length ≤ 7) (f : (tl x).all figB = true) : numB x = (!(decide ((tl x).getD 0 0 = 48) && !decide (tl x = [48])) && decide (NumText.digitsVal (tl x) ≤ 1000000)) := by
  rw [len_tl] at l1 l2
  unfold numB
  rw [decide_eq_true l1, decide_eq_true l2, f]
  rfl
theorem zero_tl : tl ("0" : Str) = [48] := by decide +kernel
theorem number_in_ok {x : Str} {k : Nat} (h : Fit k (.str x)) : Gd (m_number_in [.str x]) fun r => r = numD x := by
  have hx := fit_len h
  unfold m_number_in
  refine m_fnP rfl ?_
  unfold b_number_in
  decreasing_trivial
  refine gd (len_fit h) ?_
  decreasing_trivial
  by_cases l1 : 1 ≤ x.length
  · refine .inl ⟨by simp; omega, ?_⟩
    decreasing_trivial
    by_cases l2 : x.length ≤ 7
    · refine .inr ⟨by simp; omega, ?_⟩
      decreasing_trivial
      refine f_lc_pure (fun _ => true) figD ?_
      decreasing_trivial
      refine .inr ⟨x, rfl, rfl, ?_, fun d hd => ?_, ?_⟩
      · unfold Dl.signs
        rw [List.length_map]
        have : x.cps.toList.length = x.length := by rw [Array.length_toList]; rfl
        rw [this]
        exact Nat.lt_of_le_of_lt hx (by decide)
      · unfold Dl.signs at hd
        obtain ⟨c, hc, rfl⟩ := List.mem_map.mp hd
        refine ⟨?_, fun _ => ?_⟩
        · decreasing_trivial
          exact ⟨rfl, rfl⟩
        · decreasing_trivial
          refine gd (in_figs c) ?_
          exact ⟨rfl, rfl⟩
      · decreasing_trivial
        have e : List.map figD (List.filter (fun _ => true) (Dl.signs x)) = ((tl x).map figB).map .bool := by
          unfold Dl.signs
          rw [List.filter_eq_self.mpr (fun _ _ => rfl), List.map_map, List.map_map]
          rfl
        rw [e]
        refine gd (a := .bool ((tl x).all figB)) ?_ ?_
        · show Option.map _ (truths _) = _
          rw [truths_map']
          simp [List.all_map]
        cases f : (tl x).all figB with
        | false =>
          decreasing_trivial
          unfold numD
          have n : numB x = false := by unfold numB; rw [f]; simp
          rw [if_neg (by rw [n]; exact Bool.false_ne_true)]
        | true =>
          decreasing_trivial
          have nb := numB_in l1 l2 f
          have l1' : 1 ≤ (tl x).length := by rw [← len_tl]; exact l1
          have l2' : (tl x).length ≤ 7 := by rw [← len_tl]; exact l2
          refine gd (first_sign l1' hx) ?_
          decreasing_trivial
          refine gd (eq_text _ _) ?_
          have z1 : tl (⟨#[(tl x).getD 0 0]⟩ : Str) = [(tl x).getD 0 0] := rfl
          rw [z1, zero_tl]
          decreasing_trivial
          have fin : (if NumText.digitsVal (tl x) ≤ 1000000 then PyData.int (NumText.digitsVal (tl x)) else .none) = numD x → Gs (sSeq (sSet 2 (dB gIntA (aCons (dVar 0) aNil))) (sRet (dIf (dTst (dOp gLe (dVar 2) (dC d_TOP_NUMBER))) (dVar 2) (dC .none))) [.dat (.str x), .no, .no]) (fun _ => PyData.none = numD x) (fun d _ => d = numD x) := by
            intro hq
            decreasing_trivial
            refine gd (int_figs f l1' l2') ?_
            decreasing_trivial
            by_cases v : NumText.digitsVal (tl x) ≤ 1000000
            · refine .inl ⟨decide_eq_true (by omega), ?_⟩
              decreasing_trivial
              rw [← hq, if_pos v]
            · refine .inr ⟨decide_eq_false (by omega), ?_⟩
              decreasing_trivial
              rw [← hq, if_neg v]
          by_cases c : (tl x).getD 0 0 = 48
          · refine .inl ⟨decide_eq_true (by rw [c]), ?_⟩
            decreasing_trivial
            refine gd (ne_text' _ _) ?_
            rw [zero_tl]
            by_cases c2 : tl x = [48]
            · rw [decide_eq_true c2]
              have hq : (if NumText.digitsVal (tl x) ≤ 1000000 then PyData.int (NumText.digitsVal (tl x)) else .none) = numD x := by
                unfold numD
                rw [nb, decide_eq_true c, decide_eq_true c2]
                simp
              repeat (first | exact fin hq | decreasing_trivial_pre_omega)
            · rw [decide_eq_false c2]
              decreasing_trivial
              unfold numD
              rw [nb, decide_eq_true c, decide_eq_false c2]
              simp
          · refine .inr ⟨decide_eq_false (by simpa using c), ?_⟩
            have hq : (if NumText.digitsVal (tl x) ≤ 1000000 then PyData.int (NumText.digitsVal (tl x)) else .none) = numD x := by
              unfold numD
              rw [nb, decide_eq_false c]
              simp
            repeat (first | exact fin hq | decreasing_trivial_pre_omega)
    · refine .inl ⟨by simp; omega, ?_⟩
      decreasing_trivial
      unfold numD
      have n : numB x = false := by unfold numB; rw [← len_tl, decide_eq_false l2]; simp
      rw [if_neg (by rw [n]; exact Bool.false_ne_true)]
  · refine .inr ⟨by simp; omega, ?_⟩
    decreasing_trivial
    unfold numD
    have n : numB x = false := by unfold numB; rw [← len_tl, decide_eq_false l1]; simp
    rw [if_neg (by rw [n]; exact Bool.false_ne_true)]
theorem figures_ok {x : Str} {k : Nat} (h : Fit k (.str x)) : Gd (m__law_figures [.str x]) fun r => r = numD x := by
  have hx := fit_len h
  have hs : ∀ c ∈ tl x, c < 200 := by cases k <;> exact h.2
  unfold m__law_figures
  refine m_fnP rfl ?_
  unfold b__law_figures
  decreasing_trivial
  refine gd (len_fit h) ?_
  decreasing_trivial
  by_cases l1 : 1 ≤ x.length
  · refine .inl ⟨by simp; omega, ?_⟩
    decreasing_trivial
    by_cases l2 : x.length ≤ 7
    · refine .inr ⟨by simp; omega, ?_⟩
      decreasing_trivial
      refine f_lc_pure oddF id ?_
      decreasing_trivial
      refine .inr ⟨x, rfl, rfl, ?_, fun d hd => ?_, ?_⟩
      · rw [signs_eq, List.length_map]
        have : x.cps.toList.length = x.length := by rw [Array.length_toList]; rfl
        rw [this]
        exact Nat.lt_of_le_of_lt hx (by decide)
      · rw [signs_eq] at hd
        obtain ⟨c, hc, rfl⟩ := List.mem_map.mp hd
        have o : oddF (.str ⟨#[c]⟩) = !figB c := rfl
        refine ⟨?_, fun _ => ?_⟩
        · decreasing_trivial
          refine gd (le_0 c) ?_
          by_cases l : 48 ≤ c
          · refine .inl ⟨by rw [decide_eq_true l], ?_⟩
            decreasing_trivial
            refine gd (le_9 c) ?_
            decreasing_trivial
            refine ⟨?_, rfl⟩
            rw [o]
            unfold figB
            simp [l]
          · refine .inr ⟨by rw [decide_eq_false l], ?_⟩
            decreasing_trivial
            refine ⟨?_, rfl⟩
            rw [o]
            unfold figB
            simp [l]
        · decreasing_trivial
          exact ⟨rfl, rfl⟩
      · decreasing_trivial
        have e : List.map id (List.filter oddF (Dl.signs x)) = ((tl x).filter fun c => !figB c).map fun c => .str ⟨#[c]⟩ := by
          rw [List.map_id, signs_eq, List.filter_map]
          rfl
        rw [e]
        refine gd (ne_none_left _ fun c hc => hs c (List.mem_filter.mp hc).1) ?_
        have q : ((tl x).filter fun c => !figB c).isEmpty = (tl x).all figB := by
          rw [Bool.eq_iff_iff, List.isEmpty_iff, List.filter_eq_nil_iff, List.all_eq_true]
          simp
        rw [q]
        cases f : (tl x).all figB with
        | false =>
          decreasing_trivial
          unfold numD
          have n : numB x = false := by unfold numB; rw [f]; simp
          rw [if_neg (by rw [n]; exact Bool.false_ne_true)]
        | true =>
          decreasing_trivial
          have nb := numB_in l1 l2 f
          have l1' : 1 ≤ (tl x).length := by rw [← len_tl]; exact l1
          have l2' : (tl x).length ≤ 7 := by rw [← len_tl]; exact l2
          refine gd (first_sign l1' hx) ?_
          decreasing_trivial
          refine gd (eq_text _ _) ?_
          have z1 : tl (⟨#[(tl x).getD 0 0]⟩ : Str) = [(tl x).getD 0 0] := rfl
          rw [z1, zero_tl]
          decreasing_trivial
          have p6 : ((10 : Int) ^ 6) = 1000000 := by decide
          by_cases c : (tl x).getD 0 0 = 48
          · refine .inl ⟨decide_eq_true (by rw [c]), ?_⟩
            decreasing_trivial
            refine gd (ne_text' _ _) ?_
            rw [zero_tl]
            by_cases c2 : tl x = [48]
            · rw [decide_eq_true c2]
              decreasing_trivial
              refine gd (int_figs f l1' l2') ?_
              decreasing_trivial
              refine n_pow (b := 6) 4 (by decide) (by decide) (by decide) (by decide) fun _ => ?_
              rw [p6]
              refine n_gt ?_
              have v : NumText.digitsVal (tl x) = 0 := by rw [c2]; rfl
              rw [v]
              rw [show decide ((1000000 : Int) < ((0 : Nat) : Int)) = false from rfl]
              decreasing_trivial
              refine gd (int_figs f l1' l2') ?_
              unfold numD
              rw [nb, decide_eq_true c, decide_eq_true c2, v]
              rfl
            · rw [decide_eq_false c2]
              decreasing_trivial
              unfold numD
              rw [nb, decide_eq_true c, decide_eq_false c2]
              simp
          · refine .inr ⟨decide_eq_false (by simpa using c), ?_⟩
            decreasing_trivial
            refine gd (int_figs f l1' l2') ?_
            decreasing_trivial
            refine n_pow (b := 6) 4 (by decide) (by decide) (by decide) (by decide) fun _ => ?_
            rw [p6]
            refine n_gt ?_
            by_cases v : NumText.digitsVal (tl x) ≤ 1000000
            · rw [show decide ((1000000 : Int) < ((NumText.digitsVal (tl x) : Nat) : Int)) = false from decide_eq_false (by omega)]
              decreasing_trivial
              refine gd (int_figs f l1' l2') ?_
              unfold numD
              rw [nb, decide_eq_false c, decide_eq_true v]
              rfl
            · rw [show decide ((1000000 : Int) < ((NumText.digitsVal (tl x) : Nat) : Int)) = true from decide_eq_true (by omega)]
              decreasing_trivial
              unfold numD
              rw [nb, decide_eq_false c, decide_eq_false v]
              rfl
    · refine .inl ⟨by simp; omega, ?_⟩
      decreasing_trivial
      unfold numD
      have n : numB x = false := by unfold numB; rw [← len_tl, decide_eq_false l2]; simp
      rw [if_neg (by rw [n]; exact Bool.false_ne_true)]
  · refine .inr ⟨by simp; omega, ?_⟩
    decreasing_trivial
    unfold numD
    have n : numB x = false := by unfold numB; rw [← len_tl, decide_eq_false l1]; simp
    rw [if_neg (by rw [n]; exact Bool.false_ne_true)]
end K04

/-! ### rules for bodies that raise -/
namespace Dl
open PySem PySem.Spec PyProof.Rows L2
structure Gx (o : Option Fx) (N : Sl → Prop) (R : PyData → Sl → Prop) (E : Str → Prop) : Prop where
  ex : (∃ s, o = some (.fl (.nx s)) ∧ N s) ∨ (∃ d s, o = some (.fl (.rt d s)) ∧ R d s) ∨ ∃ c s, o = some (.ex c s) ∧ E c
section
variable {N : Sl → Prop} {R : PyData → Sl → Prop} {E : Str → Prop} {s : Sl} {f g : DSx} {fs : DS} {t : DT} {ga : DA}
theorem x_up (h : Gs (fs s) N R) : Gx (xsUp fs s) N R E := by
  obtain ⟨⟨s1, e, k⟩ | ⟨d, s1, e, k⟩⟩ := h
  · exact ⟨.inl ⟨s1, by unfold xsUp; rw [e]; rfl, k⟩⟩
  · exact ⟨.inr (.inl ⟨d, s1, by unfold xsUp; rw [e]; rfl, k⟩)⟩
theorem x_seq (h : Gx (f s) (fun s1 => Gx (g s1) N R E) R E) : Gx (xsSeq f g s) N R E := by
  obtain ⟨⟨s1, e, h⟩ | ⟨d, s1, e, h⟩ | ⟨c, s1, e, h⟩⟩ := h
  · have q : xsSeq f g s = g s1 := by unfold xsSeq; rw [e]; rfl
    rw [q]; exact h
  · exact ⟨.inr (.inl ⟨d, s1, by unfold xsSeq; rw [e]; rfl, h⟩)⟩
  · exact ⟨.inr (.inr ⟨c, s1, by unfold xsSeq; rw [e]; rfl, h⟩)⟩
theorem x_if (h : Ge (t s) fun b s1 => (b = true ∧ Gx (f s1) N R E) ∨ (b = false ∧ Gx (g s1) N R E)) : Gx (xsIf t f g s) N R E := by
  obtain ⟨b, s1, e, ⟨rfl, h⟩ | ⟨rfl, h⟩⟩ := h
  · have q : xsIf t f g s = f s1 := by unfold xsIf; rw [e]; simp
    rw [q]; exact h
  · have q : xsIf t f g s = g s1 := by unfold xsIf; rw [e]; simp
    rw [q]; exact h
theorem x_raise {c : Str} (k : E c) : Gx (xsRaise c s) N R E := ⟨.inr (.inr ⟨c, s, rfl, k⟩)⟩
theorem x_drop {m : List PyData → Option (Rx PyData)} (h : Ge (ga s) fun ds s1 => Gd (m ds) fun r => (∃ d, r = .ok d ∧ N s1) ∨ ∃ c, r = .ex c ∧ E c) : Gx (xsDrop (xCall m ga) s) N R E := by
  obtain ⟨ds, s1, e, r, e2, ⟨d, rfl, k⟩ | ⟨c, rfl, k⟩⟩ := h
  · exact ⟨.inl ⟨s1, by unfold xsDrop xCall; rw [e, Option.bind_some, e2]; rfl, k⟩⟩
  · exact ⟨.inr (.inr ⟨c, s1, by unfold xsDrop xCall; rw [e, Option.bind_some, e2]; rfl, k⟩)⟩
theorem m_fnX {M : List Str} {n : Nat} {b : DSx} {ds : List PyData} {q : Rx PyData → Prop} (l : ds.length = n) (h : Gx (b (startS M ds)) (fun _ => q (.ok .none)) (fun d _ => q (.ok d)) fun c => q (.ex c)) : Gd (fnX M n b ds) q := by
  obtain ⟨⟨s1, e, k⟩ | ⟨d, s1, e, k⟩ | ⟨c, s1, e, k⟩⟩ := h
  · exact ⟨_, by unfold fnX; rw [if_pos l, e]; rfl, k⟩
  · exact ⟨_, by unfold fnX; rw [if_pos l, e]; rfl, k⟩
  · exact ⟨_, by unfold fnX; rw [if_pos l, e]; rfl, k⟩
theorem ok_gd {m : List PyData → Option (Rx PyData)} {ds : List PyData} {d : PyData} {D : PyData → Prop} (h : Gd (m ds) fun r => r = .ok d) (k : D d) : Gd (okOf m ds) D := by
  obtain ⟨r, e, rfl⟩ := h
  exact ⟨d, by unfold okOf; rw [e], k⟩
theorem e_word {kk : Nat} {q : Str} {wd : Option Str → Option Str} {m : List PyData → Option (Rx PyData)} {Q : PyData → Sl → Prop} (ok : okTab s kk q = true) (h : Ge (ga s) fun ds s1 => Gd (m ds) fun r => ∃ w, wd (match r with
    | .ok _ => none
    | .ex c => some c) = some w ∧ Q (.str w) s1) : Ge (dWord kk q wd m ga s) Q := by
  obtain ⟨ds, s1, e, r, e2, w, e3, k⟩ := h
  refine ⟨.str w, s1, ?_, k⟩
  unfold dWord
  rw [if_pos ok, e, Option.bind_some, e2, Option.bind_some]
  cases r with
  | ok d => dsimp only at e3 ⊢; rw [e3]; rfl
  | ex c => dsimp only at e3 ⊢; rw [e3]; rfl
theorem f_split {fo fe : DE} {QA : List PyData → Sl → Prop} {s : Sl} (h : Ge (fo s) fun a s1 => Ge (fe s1) fun b s2 => Gd (gSplit a b) fun ds => QA ds s2) : Ge (fSplit fo fe s) QA := by
  obtain ⟨a, s1, e1, b, s2, e2, ds, e3, k⟩ := h
  exact ⟨ds, s2, by unfold fSplit; rw [e1, Option.bind_some, e2, Option.bind_some, e3]; rfl, k⟩
theorem a_star {fa : DE} {QA : List PyData → Sl → Prop} {s : Sl} (h : Ge (fa s) fun a s1 => ∃ ds, (a = .list ds ∨ a = .tuple ds) ∧ Ge (ga s1) fun r s2 => QA (ds ++ r) s2) : Ge (aStar fa ga s) QA := by
  obtain ⟨a, s1, e1, ds, rfl | rfl, r, s2, e2, k⟩ := h
  · exact ⟨_, s2, by unfold aStar; rw [e1, Option.bind_some]; simp only [e2, Option.map_some], k⟩
  · exact ⟨_, s2, by unfold aStar; rw [e1, Option.bind_some]; simp only [e2, Option.map_some], k⟩
theorem e_js {fs : List DE} {Q : PyData → Sl → Prop} {s : Sl} {out : Str} {s' : Sl} (h : runJs fs Str.empty s = some (out, s')) (k : Q (.str out) s') : Ge (dJs fs s) Q := ⟨_, _, by unfold dJs; rw [h]; rfl, k⟩
end
end Dl
namespace K04
open PySem PySem.Spec PyProof.Rows L2 Dl TL
/-! ### kinds by their form -/
theorem eqv_str_left {p : Str} {a : PyData} (h : PyData.eqv (.str p) a = true) : a = .str p := by
  cases a with
  | str x =>
    rw [str_eqv, decide_eq_true_eq] at h
    rw [ext_tl h]
  | _ => simp [PyData.eqv] at h
theorem eqv_str_right {p : Str} {a : PyData} (h : PyData.eqv a (.str p) = true) : a = .str p := by
  cases a with
  | str x =>
    rw [str_eqv, decide_eq_true_eq] at h
    rw [ext_tl h]
  | _ => simp [PyData.eqv] at h
theorem names_form : ∀ {ds : List PyData}, ds.all nameB = true → ∃ ns : List Str, ds = ns.map .str ∧ ∀ n ∈ ns, nameB (.str n) = true
  | [], _ => ⟨[], rfl, fun _ h => by cases h⟩
  | d :: r, h => by
    rw [List.all_cons, Bool.and_eq_true] at h
    obtain ⟨ns, rfl, hn⟩ := names_form h.2
    cases d with
    | str x =>
      refine ⟨x :: ns, rfl, fun n hn' => ?_⟩
      rcases List.mem_cons.mp hn' with rfl | z
      · exact h.1
      · exact hn n z
    | _ => exact absurd h.1 (by simp [nameB])
theorem kind_form {d : PyData} (h : kindB d = true) : (∃ (w : Str) (ns : List Str), (w = "pick" ∨ w = "some") ∧ ns ≠ [] ∧ ns.length ≤ 6 ∧ (∀ n ∈ ns, nameB (.str n) = true) ∧ d = .tuple [.str w, .tuple (ns.map .str)]) ∨
    ∃ a b : Nat, a ≤ b ∧ b ≤ 1000000 ∧ d = .tuple [.str "count", .int a, .int b] := by
  unfold kindB at h
  split at h
  · rename_i a b
    rw [Bool.and_eq_true] at h
    obtain ⟨h1, h2⟩ := h
    left
    have ha : a = .str "pick" ∨ a = .str "some" := by
      unfold inTwo at h1
      rw [List.any_cons, List.any_cons, Bool.or_eq_true, Bool.or_eq_true] at h1
      rcases h1 with z | z | z
      · exact .inl (eqv_str_left z)
      · exact .inr (eqv_str_left z)
      · cases z
    cases b with
    | tuple ds =>
      unfold namesB at h2
      simp only [Bool.and_eq_true, decide_eq_true_eq] at h2
      obtain ⟨⟨l1, l2⟩, h3, h4⟩ := h2
      obtain ⟨ns, rfl, hn⟩ := names_form h3
      rw [List.length_map] at l1 l2
      have ne : ns ≠ [] := fun z => by rw [z] at l1; simp at l1
      rcases ha with rfl | rfl
      · exact ⟨"pick", ns, .inl rfl, ne, l2, hn, rfl⟩
      · exact ⟨"some", ns, .inr rfl, ne, l2, hn, rfl⟩
    | _ => simp [namesB] at h2
  · rename_i a lo hi
    simp only [Bool.and_eq_true] at h
    obtain ⟨h1, h2, h3, h4⟩ := h
    right
    have ha := eqv_str_right h1
    cases lo with
    | int i =>
      cases hi with
      | int j =>
        simp only [wholeB, leB, Bool.and_eq_true, decide_eq_true_eq] at h2 h3 h4
        refine ⟨i.toNat, j.toNat, by omega, by omega, ?_⟩
        rw [ha, show ((i.toNat : Nat) : Int) = i by omega, show ((j.toNat : Nat) : Int) = j by omega]
      | _ => simp [wholeB] at h3
    | _ => simp [wholeB] at h2
  · cases h
end K04

namespace Dl
open PySem PySem.Spec PyProof.Rows L2
theorem j_nil {acc : Str} {Q : Str → Sl → Prop} {s : Sl} (k : Q acc s) : Ge (runJs [] acc s) Q := ⟨acc, s, rfl, k⟩
theorem j_cons {f : DE} {fs : List DE} {acc : Str} {Q : Str → Sl → Prop} {s : Sl} (h : Ge (f s) fun d s1 => ∃ y, d = .str y ∧ (acc ++ y).length ≤ sizeLine ∧ Ge (runJs fs (acc ++ y) s1) Q) : Ge (runJs (f :: fs) acc s) Q := by
  obtain ⟨d, s1, e, y, rfl, l, out, s2, e2, k⟩ := h
  exact ⟨out, s2, by unfold runJs; rw [e, Option.bind_some]; simp only [l, if_true, e2], k⟩
theorem e_js' {fs : List DE} {Q : PyData → Sl → Prop} {s : Sl} (h : Ge (runJs fs Str.empty s) fun out s1 => Q (.str out) s1) : Ge (dJs fs s) Q := by
  obtain ⟨out, s1, e, k⟩ := h
  exact e_js e k
end Dl
namespace K04
open PySem PySem.Spec PyProof.Rows L2 Dl TL
local macro_rules | `(tactic| decreasing_trivial_pre_omega) => `(tactic| (first | with_reducible refine s_seq ?_ | with_reducible refine s_if ?_ | with_reducible refine s_set ?_ | with_reducible refine s_setIx ?_ | with_reducible refine s_ret ?_ | with_reducible refine s_nil ?_ | with_reducible refine s_own ?_ | with_reducible refine s_par ?_ | with_reducible refine t_tst ?_ | with_reducible refine t_and ?_ | with_reducible refine t_or ?_ | with_reducible refine t_not ?_ | with_reducible refine t_yes ?_ | with_reducible refine e_op ?_ | with_reducible refine e_un ?_ | with_reducible refine e_chain ?_ | with_reducible refine e_b ?_ | with_reducible refine e_c ?_ | with_reducible refine e_l ?_ | with_reducible refine e_tup ?_ | with_reducible refine e_call ?_ | with_reducible refine e_and ?_ | with_reducible refine e_or ?_ | with_reducible refine e_not ?_ | with_reducible refine e_if ?_ | with_reducible refine e_sl ?_ | with_reducible refine o_n ?_ | with_reducible refine o_s ?_ | with_reducible refine a_nil ?_ | with_reducible refine a_cons ?_ | with_reducible refine f_lst ?_ | with_reducible refine f_call ?_ | with_reducible refine f_itA ?_ | with_reducible refine f_r1 ?_ | with_reducible refine r_seq ?_ | with_reducible refine n_add ?_ | with_reducible refine n_sub ?_ | with_reducible refine n_gt ?_ | with_reducible refine n_ge ?_ | with_reducible refine n_lt ?_ | with_reducible refine n_le ?_ | with_reducible refine e_var (by with_unfolding_all rfl) ?_ | with_reducible refine e_ixc (by with_unfolding_all rfl) ?_ | with_reducible refine e_callM (by with_unfolding_all rfl) ?_ | with_reducible refine s_frz (by with_unfolding_all rfl) ?_ | with_reducible refine s_app (by with_unfolding_all rfl) ?_ | with_reducible refine few_and (by first | decide | (simp only [List.length_cons, List.length_nil, Nat.reduceAdd, Nat.reduceLeDiff])) ?_ | refine Or.inl ⟨by first | with_reducible rfl | with_reducible exact Bool.not_false, ?_⟩ | refine Or.inr ⟨by first | with_reducible rfl | with_reducible exact Bool.not_true, ?_⟩ | refine Exists.intro _ (Exists.intro _ ⟨rfl, rfl, gd rfl ?_⟩) | refine Exists.intro _ ⟨rfl, ?_⟩))
local macro_rules | `(tactic| decreasing_trivial) => `(tactic| repeat decreasing_trivial_pre_omega)
def rxK (d : PyData) (o : PyData) : Rx PyData := if kindB d = true then .ok o else .ex "NoKind"
theorem check_kind_ok {k : Nat} {d : PyData} (h : Fit k d) : Gd (m_check_kind [d]) fun r => r = rxK d .none := by
  unfold m_check_kind
  refine m_fnX rfl ?_
  unfold b_check_kind
  refine x_if ?_
  decreasing_trivial
  refine gd_mono (is_kind_ok h) fun r hr => ?_
  subst hr
  decreasing_trivial
  cases kb : kindB d with
  | true =>
    refine .inr ⟨rfl, x_up ?_⟩
    decreasing_trivial
    unfold rxK
    rw [kb]
    rfl
  | false =>
    refine .inl ⟨rfl, x_raise ?_⟩
    unfold rxK
    rw [kb]
    rfl
theorem drop_kind {d : PyData} {A : Prop} {r : Rx PyData} {E : Str → Prop} (hr : r = rxK d .none) (h1 : kindB d = true → A) (h2 : kindB d = false → E "NoKind") : (∃ d, r = .ok d ∧ A) ∨ ∃ c, r = .ex c ∧ E c := by
  subst hr
  unfold rxK
  cases kb : kindB d with
  | true => exact .inl ⟨_, rfl, h1 kb⟩
  | false => exact .inr ⟨_, rfl, h2 kb⟩
theorem ne_text (x : Str) : gNe (.str x) (.str x) = some (.bool false) := by
  rw [ne_text', decide_eq_true rfl]
  rfl
def script (ns : List Int) : PyData := .dict [(.none, .list (ns.map .int))]
theorem kind_tuple {d : PyData} (h : kindB d = true) : ∃ ds, d = .tuple ds := by
  rcases kind_form h with ⟨w, ns, _, _, _, _, rfl⟩ | ⟨a, b, _, _, rfl⟩
  · exact ⟨_, rfl⟩
  · exact ⟨_, rfl⟩
theorem rx_ok {d o : PyData} (h : kindB d = true) : rxK d o = .ok o := by unfold rxK; rw [h]; rfl
theorem rx_no {d o : PyData} (h : kindB d = false) : rxK d o = .ex "NoKind" := by unfold rxK; rw [h]; rfl
end K04

namespace Dl
open PySem PySem.Spec PyProof.Rows L2
section
variable {N : Sl → Prop} {R : PyData → Sl → Prop} {E : Str → Prop} {s : Sl} {f g : DSx} {ga : DA} {fa : DE} {QT : Bool → Sl → Prop}
/-- if not f(..): .., f may raise -/
theorem x_ifnot {m : List PyData → Option (Rx PyData)} (h : Ge (ga s) fun ds s1 => Gd (m ds) fun r => (∃ b, r = .ok (.bool b) ∧ ((b = false ∧ Gx (f s1) N R E) ∨ (b = true ∧ Gx (g s1) N R E))) ∨ ∃ c, r = .ex c ∧ E c) : Gx (xsIfX (xNotT (xTst (xCall m ga))) f g s) N R E := by
  obtain ⟨ds, s1, e, r, e2, ⟨b, rfl, k⟩ | ⟨c, rfl, k⟩⟩ := h
  · have q : xNotT (xTst (xCall m ga)) s = some (.ok (!b, s1)) := by
      unfold xNotT xTst xCall
      rw [e, Option.bind_some, e2]
      rfl
    rcases k with ⟨rfl, k⟩ | ⟨rfl, k⟩
    · have w : xsIfX (xNotT (xTst (xCall m ga))) f g s = f s1 := by unfold xsIfX; rw [q]; rfl
      rw [w]; exact k
    · have w : xsIfX (xNotT (xTst (xCall m ga))) f g s = g s1 := by unfold xsIfX; rw [q]; rfl
      rw [w]; exact k
  · refine ⟨.inr (.inr ⟨c, s1, ?_, k⟩)⟩
    unfold xsIfX xNotT xTst xCall
    rw [e, Option.bind_some, e2]
    rfl
theorem t_tru (h : Ge (fa s) fun a s1 => ∃ b, truD a = some b ∧ QT b s1) : Ge (dTru fa s) QT := by
  obtain ⟨a, s1, e, b, e2, k⟩ := h
  exact ⟨b, s1, by unfold dTru; rw [e, Option.bind_some, e2]; rfl, k⟩
end
end Dl
namespace K04
open PySem PySem.Spec PyProof.Rows L2 Dl TL
local macro_rules | `(tactic| decreasing_trivial_pre_omega) => `(tactic| (first | with_reducible refine s_seq ?_ | with_reducible refine s_if ?_ | with_reducible refine s_set ?_ | with_reducible refine s_setIx ?_ | with_reducible refine s_ret ?_ | with_reducible refine s_nil ?_ | with_reducible refine s_own ?_ | with_reducible refine s_par ?_ | with_reducible refine t_tst ?_ | with_reducible refine t_and ?_ | with_reducible refine t_or ?_ | with_reducible refine t_not ?_ | with_reducible refine t_yes ?_ | with_reducible refine e_op ?_ | with_reducible refine e_un ?_ | with_reducible refine e_chain ?_ | with_reducible refine e_b ?_ | with_reducible refine e_c ?_ | with_reducible refine e_l ?_ | with_reducible refine e_tup ?_ | with_reducible refine e_call ?_ | with_reducible refine e_and ?_ | with_reducible refine e_or ?_ | with_reducible refine e_not ?_ | with_reducible refine e_if ?_ | with_reducible refine e_sl ?_ | with_reducible refine o_n ?_ | with_reducible refine o_s ?_ | with_reducible refine a_nil ?_ | with_reducible refine a_cons ?_ | with_reducible refine f_lst ?_ | with_reducible refine f_call ?_ | with_reducible refine f_itA ?_ | with_reducible refine f_r1 ?_ | with_reducible refine r_seq ?_ | with_reducible refine n_add ?_ | with_reducible refine n_sub ?_ | with_reducible refine n_gt ?_ | with_reducible refine n_ge ?_ | with_reducible refine n_lt ?_ | with_reducible refine n_le ?_ | with_reducible refine e_var (by with_unfolding_all rfl) ?_ | with_reducible refine e_ixc (by with_unfolding_all rfl) ?_ | with_reducible refine e_callM (by with_unfolding_all rfl) ?_ | with_reducible refine s_frz (by with_unfolding_all rfl) ?_ | with_reducible refine s_app (by with_unfolding_all rfl) ?_ | with_reducible refine few_and (by first | decide | (simp only [List.length_cons, List.length_nil, Nat.reduceAdd, Nat.reduceLeDiff])) ?_ | refine Or.inl ⟨by first | with_reducible rfl | with_reducible exact Bool.not_false, ?_⟩ | refine Or.inr ⟨by first | with_reducible rfl | with_reducible exact Bool.not_true, ?_⟩ | refine Exists.intro _ (Exists.intro _ ⟨rfl, rfl, gd rfl ?_⟩) | refine Exists.intro _ ⟨rfl, ?_⟩))
local macro_rules | `(tactic| decreasing_trivial) => `(tactic| repeat decreasing_trivial_pre_omega)
/-! ### values of a kind -/
theorem nodup_of {zs : List Str} : ∀ i, i ≤ zs.length → unl zs i = i → (zs.take i).Nodup
  | 0, _, _ => by simp
  | i + 1, h, e => by
    have l := unl_le zs i
    have at_ : zs[i]? = some zs[i] := List.getElem?_eq_getElem h
    unfold unl at e
    rw [at_] at e
    dsimp only at e
    split at e
    · omega
    · rename_i no
      have ih := nodup_of (zs := zs) i (by omega) (by omega)
      rw [List.take_succ_eq_append_getElem h]
      refine List.nodup_append.mpr ⟨ih, by simp, fun a ha b hb z => ?_⟩
      rw [List.mem_singleton] at hb
      subst hb z
      exact no ha
theorem kind_form' {d : PyData} (h : kindB d = true) : (∃ (w : Str) (ns : List Str), (w = "pick" ∨ w = "some") ∧ ns ≠ [] ∧ ns.length ≤ 6 ∧ (∀ n ∈ ns, nameB (.str n) = true) ∧ ns.Nodup ∧ d = .tuple [.str w, .tuple (ns.map .str)]) ∨
    ∃ a b : Nat, a ≤ b ∧ b ≤ 1000000 ∧ d = .tuple [.str "count", .int a, .int b] := by
  rcases kind_form h with ⟨w, ns, hw, ne, l, hn, rfl⟩ | q
  · refine .inl ⟨w, ns, hw, ne, l, hn, ?_, rfl⟩
    unfold kindB at h
    simp only [Bool.and_eq_true, namesB, setB, strs_map, decide_eq_true_eq] at h
    have := nodup_of (zs := ns) ns.length (Nat.le_refl _) (by omega)
    rw [List.take_length] at this
    exact this
  · exact .inr q
def memB (d : PyData) (ns : List Str) : Bool := match d with
  | .str x => decide (x ∈ ns)
  | _ => false
/-- the options of ns that stand among ds -/
def pickS (ns : List Str) (ds : List PyData) : List Str := ns.filter fun n => ds.any fun d => PyData.eqv d (.str n)
def subB (ns : List Str) : PyData → Bool
  | .tuple ds => eqTs ds (pickS ns ds)
  | _ => false
def optsOf (d : PyData) : List Str := match d with
  | .tuple ds => (strsS ds).getD []
  | _ => []
def valB : PyData → PyData → Bool
  | .tuple [.str w, os], d => if decide (tl w = tl ("pick" : Str)) = true then memB d (optsOf os) else subB (optsOf os) d
  | .tuple [_, .int a, .int b], d => wholeB a b d
  | _, _ => false
theorem any_none {ns : List Str} {d : PyData} (h : ∀ x, d ≠ .str x) : ((ns.map PyData.str).any fun z => PyData.eqv z d) = false := by
  rw [List.any_eq_false]
  intro z hz
  obtain ⟨n, _, rfl⟩ := List.mem_map.mp hz
  cases d with
  | str x => exact absurd rfl (h x)
  | _ => simp [PyData.eqv]
theorem plain_fit {k : Nat} {d : PyData} (h : Fit k d) : plainD d = true := by
  cases d with
  | dict kvs =>
    have e : kvs = [] := by cases k <;> exact h
    subst e
    rfl
  | _ => rfl
theorem strsD_map : ∀ zs : List Str, strsD (zs.map .str) = some zs
  | [] => rfl
  | z :: r => by rw [List.map_cons, strsD, strsD_map r]; rfl
theorem in_opts {k : Nat} {d : PyData} (ns : List Str) (h : Fit k d) : gIn false d (.tuple (ns.map .str)) = some (.bool (memB d ns)) := by
  show inD false d (ns.map .str) = _
  unfold inD
  by_cases sc : scalD d = true
  · rw [if_pos ⟨sc, scals ns⟩]
    cases d with
    | str x =>
      simp only [Bool.false_eq_true, if_false]
      rw [any_str]
      rfl
    | _ => rw [any_none (fun x e => by cases e)]; rfl
  · rw [if_neg (fun z => sc z.1), if_pos (plain_fit h), strsD_map]
    have e : (ns.any fun z => PyData.eqv d (.str z)) = false := by
      rw [List.any_eq_false]
      intro z _
      cases d with
      | str x => exact absurd rfl sc
      | _ => simp [PyData.eqv]
    simp only [Bool.false_eq_true, if_false, Option.map_some, e]
    cases d with
    | str x => exact absurd rfl sc
    | _ => rfl
theorem plains_fit {k : Nat} {ds : List PyData} (h : Fit k (.tuple ds)) : ds.all plainD = true := by
  cases k with
  | zero => exact h.elim
  | succ j => exact List.all_eq_true.mpr fun d hd => plain_fit (h.2 d hd)
theorem in_rev {k : Nat} {ds : List PyData} (h : Fit k (.tuple ds)) (n : Str) : gInR (.str n) (.tuple ds) = some (.bool (ds.any fun d => PyData.eqv d (.str n))) := by
  exact if_pos (plains_fit h)
theorem eq_ts {k : Nat} {ds : List PyData} (h : Fit k (.tuple ds)) (zs : List Str) : gEqTS (.tuple ds) (.tuple (zs.map .str)) = some (.bool (eqTs ds zs)) := by
  refine (if_pos (plains_fit h)).trans ?_
  rw [strs_map]
  rfl
theorem filter_strs (p : Str → Bool) (q : PyData → Bool) (h : ∀ n, q (.str n) = p n) : ∀ ns : List Str, (ns.map PyData.str).filter q = (ns.filter p).map .str
  | [] => rfl
  | n :: r => by
    rw [List.map_cons, List.filter_cons, List.filter_cons, h n, filter_strs p q h r]
    cases p n <;> rfl
def rxV (kd d : PyData) : Rx PyData := if kindB kd = true then .ok (.bool (valB kd d)) else .ex "NoKind"
theorem tl_pick : decide (tl ("pick" : Str) = tl ("pick" : Str)) = true := by decide +kernel
theorem some_pick : decide (tl ("some" : Str) = tl ("pick" : Str)) = false := by decide +kernel
theorem some_some : decide (tl ("some" : Str) = tl ("some" : Str)) = true := by decide +kernel
theorem count_pick : decide (tl ("count" : Str) = tl ("pick" : Str)) = false := by decide +kernel
theorem count_some : decide (tl ("count" : Str) = tl ("some" : Str)) = false := by decide +kernel
theorem optsOf_map (ns : List Str) : optsOf (.tuple (ns.map .str)) = ns := by
  show (strsS (ns.map .str)).getD [] = ns
  rw [strs_map]
  rfl
theorem valB_pick (ns : List Str) (d : PyData) : valB (.tuple [.str "pick", .tuple (ns.map .str)]) d = memB d ns := by
  show (if decide (tl ("pick" : Str) = tl ("pick" : Str)) = true then memB d (optsOf (.tuple (ns.map .str))) else subB (optsOf (.tuple (ns.map .str))) d) = _
  rw [if_pos tl_pick, optsOf_map]
theorem valB_some (ns : List Str) (d : PyData) : valB (.tuple [.str "some", .tuple (ns.map .str)]) d = subB ns d := by
  show (if decide (tl ("some" : Str) = tl ("pick" : Str)) = true then memB d (optsOf (.tuple (ns.map .str))) else subB (optsOf (.tuple (ns.map .str))) d) = _
  rw [some_pick, if_neg (by decide), optsOf_map]
theorem rxV_ok {kd d : PyData} (h : kindB kd = true) : rxV kd d = .ok (.bool (valB kd d)) := by unfold rxV; rw [h]; rfl
theorem rxV_no {kd d : PyData} (h : kindB kd = false) : rxV kd d = .ex "NoKind" := by unfold rxV; rw [h]; rfl
def tupB : PyData → Bool
  | .tuple _ => true
  | _ => false
def strB : PyData → Bool
  | .str _ => true
  | _ => false
def intB : PyData → Bool
  | .int _ => true
  | _ => false
theorem isi_tuple_fit {k : Nat} {d : PyData} (h : Fit k d) : gIsi "tuple" d = some (.bool (tupB d)) := by
  cases d with
  | dict kvs =>
    have e : kvs = [] := by cases k <;> exact h
    subst e
    rfl
  | _ => rfl
theorem isi_str_fit {k : Nat} {d : PyData} (h : Fit k d) : gIsi "str" d = some (.bool (strB d)) := by
  cases d with
  | dict kvs =>
    have e : kvs = [] := by cases k <;> exact h
    subst e
    rfl
  | _ => rfl
theorem isi_int_fit {k : Nat} {d : PyData} (h : Fit k d) : gIsi "int" d = some (.bool (intB d || (match d with | .bool _ => true | _ => false))) := by
  cases d with
  | dict kvs =>
    have e : kvs = [] := by cases k <;> exact h
    subst e
    rfl
  | _ => rfl
theorem is_whole_ok {k : Nat} {d : PyData} (h : Fit k d) : Gd (m_is_whole [d]) fun r => r = .bool (intB d) := by
  unfold m_is_whole
  refine m_fnP rfl ?_
  unfold b_is_whole
  decreasing_trivial
  refine gd (isi_int_fit h) ?_
  cases d with
  | int i =>
    refine ⟨_, rfl, .inl ⟨rfl, ?_⟩⟩
    decreasing_trivial
    refine gd (a := .bool false) rfl ?_
    decreasing_trivial
    rfl
  | bool b =>
    refine ⟨_, rfl, .inl ⟨rfl, ?_⟩⟩
    decreasing_trivial
    refine gd (a := .bool true) rfl ?_
    decreasing_trivial
    rfl
  | _ => exact ⟨_, rfl, .inr ⟨rfl, rfl⟩⟩
/-- the options that stand in a tuple, as a comprehension -/
theorem pick_map (ns : List Str) (ds : List PyData) : (((ns.map PyData.str).filter fun z => match z with | .str n => ds.any fun d => PyData.eqv d (.str n) | _ => false).map id) = (pickS ns ds).map .str := by
  rw [List.map_id, filter_strs (fun n => ds.any fun d => PyData.eqv d (.str n)) _ fun n => rfl]
  rfl
theorem whole_chain {a b i : Int} : wholeB a b (.int i) = (decide (a ≤ i) && decide (i ≤ b)) := rfl
theorem is_value_ok {k j : Nat} {kd d : PyData} (hk : Fit k kd) (hd : Fit j d) : Gd (m_is_value [kd, d]) fun r => r = rxV kd d := by
  unfold m_is_value
  refine m_fnX rfl ?_
  unfold b_is_value
  refine x_seq ?_
  refine x_drop ?_
  decreasing_trivial
  refine gd_mono (check_kind_ok hk) fun r hr => ?_
  refine drop_kind hr (fun kb => ?_) (fun kb => ?_)
  · rw [rxV_ok kb]
    refine x_seq (x_up ?_)
    rcases kind_form' kb with ⟨w, ns, rfl | rfl, ne, l6, nm, nd, rfl⟩ | ⟨a, b, ab, bm, rfl⟩
    · rw [valB_pick]
      decreasing_trivial
      refine gd (at_0 _ _) ?_
      decreasing_trivial
      refine gd (eq_text _ _) ?_
      rw [tl_pick]
      decreasing_trivial
      refine gd (at_1 _ _ _) ?_
      decreasing_trivial
      refine gd (in_opts ns hd) ?_
      decreasing_trivial
      rfl
    · rw [valB_some]
      decreasing_trivial
      refine gd (at_0 _ _) ?_
      decreasing_trivial
      refine gd (eq_text _ _) ?_
      rw [some_pick]
      decreasing_trivial
      refine x_seq (x_up ?_)
      decreasing_trivial
      refine gd (at_0 _ _) ?_
      decreasing_trivial
      refine gd (eq_text _ _) ?_
      rw [some_some]
      decreasing_trivial
      refine gd (isi_tuple_fit hd) ?_
      cases d with
      | tuple ds =>
        refine ⟨_, rfl, .inl ⟨rfl, ?_⟩⟩
        decreasing_trivial
        refine f_lc_pure (fun z => match z with | .str n => ds.any fun d => PyData.eqv d (.str n) | _ => false) id ?_
        decreasing_trivial
        refine gd (at_1 _ _ _) ?_
        decreasing_trivial
        refine .inl ⟨_, .inr rfl, rfl, ?_, fun z hz => ?_, ?_⟩
        · rw [List.length_map]
          exact Nat.lt_of_le_of_lt l6 (by decide)
        · obtain ⟨n, hn, rfl⟩ := List.mem_map.mp hz
          refine ⟨?_, fun _ => ?_⟩
          · decreasing_trivial
            refine gd (in_rev hd n) ?_
            decreasing_trivial
            exact ⟨rfl, rfl⟩
          · decreasing_trivial
            exact ⟨rfl, rfl⟩
        · rw [pick_map]
          decreasing_trivial
          refine gd (a := .tuple ((pickS ns ds).map .str)) rfl ?_
          decreasing_trivial
          refine gd (eq_ts hd _) ?_
          decreasing_trivial
          rfl
      | _ => exact ⟨_, rfl, .inr ⟨rfl, rfl⟩⟩
    · decreasing_trivial
      refine gd (at_0 _ _) ?_
      decreasing_trivial
      refine gd (eq_text _ _) ?_
      rw [count_pick]
      decreasing_trivial
      refine x_seq (x_up ?_)
      decreasing_trivial
      refine gd (at_0 _ _) ?_
      decreasing_trivial
      refine gd (eq_text _ _) ?_
      rw [count_some]
      decreasing_trivial
      refine x_up ?_
      decreasing_trivial
      refine gd_mono (is_whole_ok hd) fun r hr => ?_
      subst hr
      cases d with
      | int i =>
        refine ⟨_, rfl, .inl ⟨rfl, ?_⟩⟩
        decreasing_trivial
        refine gd (at_1 _ _ _) ?_
        decreasing_trivial
        by_cases l1 : (a : Int) ≤ i
        · refine .inl ⟨by rw [decide_eq_true l1], ?_⟩
          decreasing_trivial
          refine gd (at_2 _ _ _ _) ?_
          decreasing_trivial
          show Rx.ok (PyData.bool (decide (i ≤ (b : Int)))) = Rx.ok (.bool (decide ((a : Int) ≤ i) && decide (i ≤ (b : Int))))
          rw [decide_eq_true l1, Bool.true_and]
        · refine .inr ⟨by rw [decide_eq_false l1], ?_⟩
          decreasing_trivial
          show Rx.ok (PyData.bool false) = Rx.ok (.bool (decide ((a : Int) ≤ i) && decide (i ≤ (b : Int))))
          rw [decide_eq_false l1, Bool.false_and]
      | _ => exact ⟨_, rfl, .inr ⟨rfl, rfl⟩⟩
  · rw [rxV_no kb]
end K04

namespace K04
open PySem PySem.Spec PyProof.Rows L2 Dl TL
local macro_rules | `(tactic| decreasing_trivial_pre_omega) => `(tactic| (first | with_reducible refine s_seq ?_ | with_reducible refine s_if ?_ | with_reducible refine s_set ?_ | with_reducible refine s_setIx ?_ | with_reducible refine s_ret ?_ | with_reducible refine s_nil ?_ | with_reducible refine s_own ?_ | with_reducible refine s_par ?_ | with_reducible refine t_tst ?_ | with_reducible refine t_and ?_ | with_reducible refine t_or ?_ | with_reducible refine t_not ?_ | with_reducible refine t_yes ?_ | with_reducible refine e_op ?_ | with_reducible refine e_un ?_ | with_reducible refine e_chain ?_ | with_reducible refine e_b ?_ | with_reducible refine e_c ?_ | with_reducible refine e_l ?_ | with_reducible refine e_tup ?_ | with_reducible refine e_call ?_ | with_reducible refine e_and ?_ | with_reducible refine e_or ?_ | with_reducible refine e_not ?_ | with_reducible refine e_if ?_ | with_reducible refine e_sl ?_ | with_reducible refine o_n ?_ | with_reducible refine o_s ?_ | with_reducible refine a_nil ?_ | with_reducible refine a_cons ?_ | with_reducible refine f_lst ?_ | with_reducible refine f_call ?_ | with_reducible refine f_itA ?_ | with_reducible refine f_r1 ?_ | with_reducible refine r_seq ?_ | with_reducible refine n_add ?_ | with_reducible refine n_sub ?_ | with_reducible refine n_gt ?_ | with_reducible refine n_ge ?_ | with_reducible refine n_lt ?_ | with_reducible refine n_le ?_ | with_reducible refine e_var (by with_unfolding_all rfl) ?_ | with_reducible refine e_ixc (by with_unfolding_all rfl) ?_ | with_reducible refine e_callM (by with_unfolding_all rfl) ?_ | with_reducible refine s_frz (by with_unfolding_all rfl) ?_ | with_reducible refine s_app (by with_unfolding_all rfl) ?_ | with_reducible refine few_and (by first | decide | (simp only [List.length_cons, List.length_nil, Nat.reduceAdd, Nat.reduceLeDiff])) ?_ | refine Or.inl ⟨by first | with_reducible rfl | with_reducible exact Bool.not_false, ?_⟩ | refine Or.inr ⟨by first | with_reducible rfl | with_reducible exact Bool.not_true, ?_⟩ | refine Exists.intro _ (Exists.intro _ ⟨rfl, rfl, gd rfl ?_⟩) | refine Exists.intro _ ⟨rfl, ?_⟩))
local macro_rules | `(tactic| decreasing_trivial) => `(tactic| repeat decreasing_trivial_pre_omega)
/-! ### a part of the options in their order, told by their places -/
theorem eqv_str_dec (x y : Str) : PyData.eqv (.str x) (.str y) = decide (x = y) := by
  rw [str_eqv, Bool.eq_iff_iff, decide_eq_true_eq, decide_eq_true_eq]
  exact ⟨fun h => ext_tl h, fun h => by rw [h]⟩
theorem eqTs_strs : ∀ zs ws : List Str, eqTs (zs.map .str) ws = decide (zs = ws)
  | [], [] => rfl
  | [], w :: ws => by rw [decide_eq_false (by simp)]; rfl
  | z :: zs, [] => by rw [decide_eq_false (by simp)]; rfl
  | z :: zs, w :: ws => by
    rw [List.map_cons, eqTs, eqv_str_dec, eqTs_strs zs ws, ← Bool.decide_and]
    exact decide_eq_decide.mpr ⟨fun h => by rw [h.1, h.2], fun h => List.cons.inj h⟩
theorem eqTs_form : ∀ {ds : List PyData} {zs : List Str}, eqTs ds zs = true → ds = zs.map .str
  | [], [], _ => rfl
  | [], z :: zs, h => by cases h
  | d :: ds, [], h => by cases h
  | d :: ds, z :: zs, h => by
    rw [eqTs, Bool.and_eq_true] at h
    rw [List.map_cons, eqv_str_right h.1, eqTs_form h.2]
theorem pickS_strs (ns zs : List Str) : pickS ns (zs.map .str) = ns.filter fun n => decide (n ∈ zs) := by
  unfold pickS
  congr 1
  funext n
  exact any_str zs n
theorem idx_up {ns : List Str} (nd : ns.Nodup) : (ns.map fun z => (ns.idxOf z : Int)).Pairwise (· < ·) := by
  rw [List.pairwise_map, List.pairwise_iff_getElem]
  intro i j hi hj lt
  have a : ns.idxOf ns[i] = i := nd.idxOf_getElem i hi
  have b : ns.idxOf ns[j] = j := nd.idxOf_getElem j hj
  rw [a, b]
  omega
theorem idx_inj {ns : List Str} : ∀ {zs ws : List Str}, (∀ z ∈ zs, z ∈ ns) → (∀ z ∈ ws, z ∈ ns) → (zs.map fun z => (ns.idxOf z : Int)) = (ws.map fun z => (ns.idxOf z : Int)) → zs = ws
  | [], [], _, _, _ => rfl
  | [], w :: ws, _, _, h => by cases h
  | z :: zs, [], _, _, h => by cases h
  | z :: zs, w :: ws, hz, hw, h => by
    rw [List.map_cons, List.map_cons] at h
    obtain ⟨h1, h2⟩ := List.cons.inj h
    have e : ns.idxOf z = ns.idxOf w := by omega
    have e1 : ns[ns.idxOf z]? = some z := by
      have l := List.idxOf_lt_length_of_mem (hz z List.mem_cons_self)
      rw [List.getElem?_eq_getElem l, List.getElem_idxOf l]
    have e2 : ns[ns.idxOf w]? = some w := by
      have l := List.idxOf_lt_length_of_mem (hw w List.mem_cons_self)
      rw [List.getElem?_eq_getElem l, List.getElem_idxOf l]
    rw [e, e2] at e1
    rw [Option.some.inj e1, idx_inj (fun z h => hz z (List.mem_cons_of_mem _ h)) (fun z h => hw z (List.mem_cons_of_mem _ h)) h2]
theorem sub_places {ns : List Str} (nd : ns.Nodup) (zs : List Str) : (decide (((zs.filter fun z => decide (z ∈ ns)).map fun z => (ns.idxOf z : Int)).length = zs.length) &&
    decide (((zs.filter fun z => decide (z ∈ ns)).map fun z => (ns.idxOf z : Int)) = upS ((zs.filter fun z => decide (z ∈ ns)).map fun z => (ns.idxOf z : Int)))) = eqTs (zs.map .str) (pickS ns (zs.map .str)) := by
  rw [eqTs_strs, pickS_strs, Bool.eq_iff_iff, Bool.and_eq_true, decide_eq_true_eq, decide_eq_true_eq, decide_eq_true_eq]
  have sub : ∀ w ∈ ns.filter (fun n => decide (n ∈ zs)), w ∈ ns := fun w h => (List.mem_filter.mp h).1
  have up2 : ((ns.filter fun n => decide (n ∈ zs)).map fun z => (ns.idxOf z : Int)).Pairwise (· < ·) := (idx_up nd).sublist ((List.filter_sublist).map _)
  constructor
  · rintro ⟨h1, h2⟩
    rw [List.length_map] at h1
    have all : zs.filter (fun z => decide (z ∈ ns)) = zs := List.filter_eq_self.mpr fun z hz => by
      have := List.length_filter_eq_length_iff.mp h1 z hz
      simpa using this
    have mem : ∀ z ∈ zs, z ∈ ns := fun z hz => by
      have := List.filter_eq_self.mp all z hz
      simpa using this
    rw [all] at h2
    have up1 : (zs.map fun z => (ns.idxOf z : Int)).Pairwise (· < ·) := by rw [h2]; exact upS_up _
    refine idx_inj mem sub (up_one up1 up2 fun k => ?_)
    constructor
    · intro hk
      obtain ⟨z, hz, rfl⟩ := List.mem_map.mp hk
      exact List.mem_map.mpr ⟨z, List.mem_filter.mpr ⟨mem z hz, by simpa using hz⟩, rfl⟩
    · intro hk
      obtain ⟨z, hz, rfl⟩ := List.mem_map.mp hk
      have := (List.mem_filter.mp hz).2
      exact List.mem_map.mpr ⟨z, by simpa using this, rfl⟩
  · intro h
    have mem : ∀ z ∈ zs, z ∈ ns := fun z hz => by rw [h] at hz; exact sub z hz
    have all : zs.filter (fun z => decide (z ∈ ns)) = zs := List.filter_eq_self.mpr fun z hz => by simpa using mem z hz
    rw [all, List.length_map]
    refine ⟨rfl, ?_⟩
    have up1 : (zs.map fun z => (ns.idxOf z : Int)).Pairwise (· < ·) := by rw [h]; exact up2
    exact up_one up1 (upS_up _) fun k => mem_upS.symm
/-! lists of whole numbers beside one another -/
theorem eqv_ints : ∀ a b : List Int, PyData.eqv (.list (a.map .int)) (.list (b.map .int)) = decide (a = b)
  | [], [] => rfl
  | [], b :: y => by rw [decide_eq_false (by simp)]; rfl
  | a :: x, [] => by rw [decide_eq_false (by simp)]; rfl
  | a :: x, b :: y => by
    have ih := eqv_ints x y
    have e : PyData.eqv (.list ((a :: x).map .int)) (.list ((b :: y).map .int)) = (PyData.eqv (.int a) (.int b) && PyData.eqv (.list (x.map .int)) (.list (y.map .int))) := rfl
    have e2 : PyData.eqv (.int a) (.int b) = decide (a = b) := rfl
    rw [e, ih, e2, ← Bool.decide_and]
    exact decide_eq_decide.mpr ⟨fun h => by rw [h.1, h.2], fun h => List.cons.inj h⟩
theorem ints_shape (a : List Int) : noDct (.list (a.map .int)) = true ∧ SeqAt.shaped (.list (a.map .int)) = true := by
  refine ⟨?_, ?_⟩
  · rw [noDct]
    exact noDcts_of fun d hd => by
      obtain ⟨i, _, rfl⟩ := List.mem_map.mp hd
      rfl
  · unfold SeqAt.shaped
    rw [Bool.and_eq_true, PyData.canLay0, PyData.depth]
    refine ⟨lays_of fun d hd => ?_, ?_⟩
    · obtain ⟨i, _, rfl⟩ := List.mem_map.mp hd
      rfl
    · have := depths_of (m := 1) (ds := a.map .int) fun d hd => by
        obtain ⟨i, _, rfl⟩ := List.mem_map.mp hd
        simp [PyData.depth]
      exact decide_eq_true (by omega)
theorem eq_ints (a b : List Int) : gEq (.list (a.map .int)) (.list (b.map .int)) = some (.bool (decide (a = b))) := by
  obtain ⟨h1, h2⟩ := ints_shape a
  obtain ⟨h3, h4⟩ := ints_shape b
  unfold gEq
  rw [if_neg (by simp [isStrD]), if_pos ⟨⟨h1, h3⟩, h2, h4⟩, eqv_ints]
theorem strs_of_all : ∀ {ds : List PyData}, ds.all strB = true → ∃ zs : List Str, ds = zs.map .str
  | [], _ => ⟨[], rfl⟩
  | d :: r, h => by
    rw [List.all_cons, Bool.and_eq_true] at h
    obtain ⟨zs, rfl⟩ := strs_of_all h.2
    cases d with
    | str x => exact ⟨x :: zs, rfl⟩
    | _ => cases h.1
theorem not_sub {ns : List Str} {ds : List PyData} (h : ds.all strB = false) : subB ns (.tuple ds) = false := by
  cases e : subB ns (.tuple ds) with
  | false => rfl
  | true =>
    have := eqTs_form (show eqTs ds (pickS ns ds) = true from e)
    rw [this] at h
    rw [List.all_eq_false] at h
    obtain ⟨d, hd, n⟩ := h
    obtain ⟨z, _, rfl⟩ := List.mem_map.mp hd
    exact absurd rfl n
/-! ### the law's look at a value -/
theorem law_is_value_ok {j : Nat} {kd d : PyData} (kb : kindB kd = true) (hd : Fit j d) : Gd (m__law_is_value [kd, d]) fun r => r = .bool (valB kd d) := by
  unfold m__law_is_value
  refine m_fnP rfl ?_
  unfold b__law_is_value
  rcases kind_form' kb with ⟨w, ns, rfl | rfl, ne, l6, nm, nd, rfl⟩ | ⟨a, b, ab, bm, rfl⟩
  · rw [valB_pick]
    decreasing_trivial
    refine gd (at_0 _ _) ?_
    decreasing_trivial
    refine gd (eq_text _ _) ?_
    rw [tl_pick]
    decreasing_trivial
    refine gd (isi_str_fit hd) ?_
    cases d with
    | str x =>
      refine ⟨_, rfl, .inl ⟨rfl, ?_⟩⟩
      decreasing_trivial
      refine gd (at_1 _ _ _) ?_
      decreasing_trivial
      refine gd (in_opts ns hd) ?_
      decreasing_trivial
      rfl
    | _ => exact ⟨_, rfl, .inr ⟨rfl, rfl⟩⟩
  · rw [valB_some]
    decreasing_trivial
    refine gd (at_0 _ _) ?_
    decreasing_trivial
    refine gd (eq_text _ _) ?_
    rw [some_pick]
    decreasing_trivial
    refine gd (at_0 _ _) ?_
    decreasing_trivial
    refine gd (eq_text _ _) ?_
    rw [show decide (tl ("some" : Str) = tl ("count" : Str)) = false by decide +kernel]
    decreasing_trivial
    cases d with
    | tuple ds =>
      refine gd (a := .bool true) (isi_tuple_fit hd) ?_
      decreasing_trivial
      refine f_lc_pure (fun _ => true) (fun d => .bool (strB d)) ?_
      decreasing_trivial
      obtain ⟨few, i, fits⟩ := fit_mem hd
      refine .inl ⟨_, .inr rfl, rfl, Nat.lt_of_le_of_lt few (by decide), fun z hz => ⟨?_, fun _ => ?_⟩, ?_⟩
      · decreasing_trivial
        exact ⟨rfl, rfl⟩
      · decreasing_trivial
        refine gd (isi_str_fit (fits z hz)) ?_
        decreasing_trivial
        exact ⟨rfl, rfl⟩
      · rw [List.filter_eq_self.mpr (fun _ _ => rfl)]
        have e : (ds.map fun d => PyData.bool (strB d)) = (ds.map strB).map .bool := by rw [List.map_map]; rfl
        rw [e]
        refine gd (false_in _) ?_
        have e2 : (ds.map strB).all id = ds.all strB := by rw [List.all_map]; rfl
        rw [e2]
        cases ha : ds.all strB with
        | false =>
          rw [not_sub ha]
          decreasing_trivial
          try rfl
        | true =>
          obtain ⟨zs, rfl⟩ := strs_of_all ha
          decreasing_trivial
          refine f_lc_pure (fun d => memB d ns) (fun d => match d with | .str x => .int (ns.idxOf x : Nat) | _ => .none) ?_
          decreasing_trivial
          refine .inl ⟨_, .inr rfl, rfl, Nat.lt_of_le_of_lt few (by decide), fun z hz => ⟨?_, fun hT => ?_⟩, ?_⟩
          · decreasing_trivial
            refine gd (at_1 _ _ _) ?_
            decreasing_trivial
            refine gd (in_opts ns (fits z hz)) ?_
            decreasing_trivial
            exact ⟨rfl, rfl⟩
          · obtain ⟨x, hx, rfl⟩ := List.mem_map.mp hz
            decreasing_trivial
            refine gd (at_1 _ _ _) ?_
            decreasing_trivial
            have hm : x ∈ ns := by simpa [memB] using hT
            refine gd (a := .int (ns.idxOf x : Nat)) ?_ ?_
            · show (strsS (ns.map .str)).bind _ = _
              rw [strs_map, Option.bind_some, if_pos hm]
            · decreasing_trivial
              exact ⟨rfl, rfl⟩
          · have e3 : (((zs.map PyData.str).filter fun d => memB d ns).map fun d => match d with | .str x => PyData.int (ns.idxOf x : Nat) | _ => .none) = ((zs.filter fun z => decide (z ∈ ns)).map fun z => (ns.idxOf z : Int)).map .int := by
              rw [filter_strs (fun z => decide (z ∈ ns)) _ fun n => rfl, List.map_map, List.map_map]
              rfl
            rw [e3]
            generalize hp : ((zs.filter fun z => decide (z ∈ ns)).map fun z => (ns.idxOf z : Int)) = ps
            have lp : ps.length ≤ zs.length := by rw [← hp, List.length_map]; exact List.length_filter_le _ _
            have lz : zs.length ≤ 20 := by rw [List.length_map] at few; exact few
            decreasing_trivial
            refine gd (a := .int ((ps.map PyData.int).length : Nat)) rfl ?_
            decreasing_trivial
            refine gd (a := .int ((zs.map PyData.str).length : Nat)) rfl ?_
            decreasing_trivial
            refine gd (eq_int _ _) ?_
            rw [List.length_map, List.length_map]
            have main := sub_places nd zs
            rw [hp] at main
            show ∃ b, _ ∧ _
            have e4 : subB ns (.tuple (zs.map .str)) = (decide (ps.length = zs.length) && decide (ps = upS ps)) := main.symm
            rw [e4]
            by_cases l : ps.length = zs.length
            · refine ⟨true, by rw [l, beq_self_eq_true], .inl ⟨rfl, ?_⟩⟩
              decreasing_trivial
              refine gd (a := .list ((upS ps).map .int)) ?_ ?_
              · show (intsOf (ps.map .int)).bind _ = _
                rw [intsOf_of, Option.bind_some, if_pos (by omega)]
              · decreasing_trivial
                refine gd (eq_ints _ _) ?_
                decreasing_trivial
                rw [decide_eq_true l, Bool.true_and]
            · refine ⟨false, ?_, .inr ⟨rfl, ?_⟩⟩
              · congr 1
                rw [beq_eq_false_iff_ne]
                omega
              · rw [decide_eq_false l, Bool.false_and]
    | _ =>
      refine gd (a := .bool false) (isi_tuple_fit hd) ?_
      decreasing_trivial
      rfl
  · decreasing_trivial
    refine gd (at_0 _ _) ?_
    decreasing_trivial
    refine gd (eq_text _ _) ?_
    rw [count_pick]
    decreasing_trivial
    refine gd (at_0 _ _) ?_
    decreasing_trivial
    refine gd (eq_text _ _) ?_
    rw [show decide (tl ("count" : Str) = tl ("count" : Str)) = true by decide +kernel]
    decreasing_trivial
    refine gd (at_1 _ _ _) ?_
    decreasing_trivial
    refine gd (at_2 _ _ _ _) ?_
    decreasing_trivial
    refine gd_mono (within_ok hd _ _) fun r hr => ?_
    subst hr
    decreasing_trivial
    rfl
end K04

namespace K04
open PySem PySem.Spec PyProof.Rows L2 Dl TL
local macro_rules | `(tactic| decreasing_trivial_pre_omega) => `(tactic| (first | with_reducible refine s_seq ?_ | with_reducible refine s_if ?_ | with_reducible refine s_set ?_ | with_reducible refine s_setIx ?_ | with_reducible refine s_ret ?_ | with_reducible refine s_nil ?_ | with_reducible refine s_own ?_ | with_reducible refine s_par ?_ | with_reducible refine t_tst ?_ | with_reducible refine t_and ?_ | with_reducible refine t_or ?_ | with_reducible refine t_not ?_ | with_reducible refine t_yes ?_ | with_reducible refine e_op ?_ | with_reducible refine e_un ?_ | with_reducible refine e_chain ?_ | with_reducible refine e_b ?_ | with_reducible refine e_c ?_ | with_reducible refine e_l ?_ | with_reducible refine e_tup ?_ | with_reducible refine e_call ?_ | with_reducible refine e_and ?_ | with_reducible refine e_or ?_ | with_reducible refine e_not ?_ | with_reducible refine e_if ?_ | with_reducible refine e_sl ?_ | with_reducible refine o_n ?_ | with_reducible refine o_s ?_ | with_reducible refine a_nil ?_ | with_reducible refine a_cons ?_ | with_reducible refine f_lst ?_ | with_reducible refine f_call ?_ | with_reducible refine f_itA ?_ | with_reducible refine f_r1 ?_ | with_reducible refine r_seq ?_ | with_reducible refine n_add ?_ | with_reducible refine n_sub ?_ | with_reducible refine n_gt ?_ | with_reducible refine n_ge ?_ | with_reducible refine n_lt ?_ | with_reducible refine n_le ?_ | with_reducible refine e_var (by with_unfolding_all rfl) ?_ | with_reducible refine e_ixc (by with_unfolding_all rfl) ?_ | with_reducible refine e_callM (by with_unfolding_all rfl) ?_ | with_reducible refine s_frz (by with_unfolding_all rfl) ?_ | with_reducible refine s_app (by with_unfolding_all rfl) ?_ | with_reducible refine few_and (by first | decide | (simp only [List.length_cons, List.length_nil, Nat.reduceAdd, Nat.reduceLeDiff])) ?_ | refine Or.inl ⟨by first | with_reducible rfl | with_reducible exact Bool.not_false, ?_⟩ | refine Or.inr ⟨by first | with_reducible rfl | with_reducible exact Bool.not_true, ?_⟩ | refine Exists.intro _ (Exists.intro _ ⟨rfl, rfl, gd rfl ?_⟩) | refine Exists.intro _ ⟨rfl, ?_⟩))
local macro_rules | `(tactic| decreasing_trivial) => `(tactic| repeat decreasing_trivial_pre_omega)
/-! ### the text of a value -/
def strsOf (ds : List PyData) : List Str := (strsS ds).getD []
def textV : PyData → PyData
  | .tuple ds => if ds.isEmpty then .str "-" else .str (Txt.join "+" (strsOf ds))
  | .int i => .str (toString i)
  | d => d
theorem mem_len {ns : List Str} (nm : ∀ n ∈ ns, nameB (.str n) = true) : ∀ {zs : List Str}, (∀ z ∈ zs, z ∈ ns) → (zs.map (·.length)).sum ≤ 8 * zs.length
  | [], _ => Nat.le_refl _
  | z :: zs, h => by
    have a := (nameB_parts (nm z (h z List.mem_cons_self))).2.1
    have b := mem_len nm fun y hy => h y (List.mem_cons_of_mem _ hy)
    rw [List.map_cons, List.sum_cons, List.length_cons]
    omega
theorem join_plus {ns : List Str} (nm : ∀ n ∈ ns, nameB (.str n) = true) {zs : List Str} (h : ∀ z ∈ zs, z ∈ ns) (few : zs.length ≤ 20) : joinD "+" (zs.map .str) = some (.str (Txt.join "+" zs)) := by
  unfold joinD
  rw [textsD_of, Option.bind_some, if_pos]
  have := mem_len nm h
  have l : ("+" : Str).length = 1 := rfl
  rw [l]
  omega
theorem value_text_ok {k j : Nat} {kd d : PyData} (hk : Fit k kd) (hd : Fit j d) : Gd (m_value_text [kd, d]) fun r => (kindB kd = false ∧ r = .ex "NoKind") ∨ (kindB kd = true ∧ valB kd d = false ∧ r = .ex "NoValue") ∨ (kindB kd = true ∧ valB kd d = true ∧ r = .ok (textV d)) := by
  unfold m_value_text
  refine m_fnX rfl ?_
  unfold b_value_text
  refine x_seq ?_
  refine x_ifnot ?_
  decreasing_trivial
  refine gd_mono (is_value_ok hk hd) fun r hr => ?_
  subst hr
  cases kb : kindB kd with
  | false =>
    rw [rxV_no kb]
    exact .inr ⟨_, rfl, .inl ⟨rfl, rfl⟩⟩
  | true =>
    rw [rxV_ok kb]
    refine .inl ⟨_, rfl, ?_⟩
    cases vb : valB kd d with
    | false =>
      refine .inl ⟨rfl, x_raise ?_⟩
      exact .inr (.inl ⟨rfl, rfl, rfl⟩)
    | true =>
      refine .inr ⟨rfl, x_up ?_⟩
      decreasing_trivial
      refine x_seq (x_up ?_)
      rcases kind_form' kb with ⟨w, ns, rfl | rfl, ne, l6, nm, nd, rfl⟩ | ⟨a, b, ab, bm, rfl⟩
      · rw [valB_pick] at vb
        cases d with
        | str x =>
          decreasing_trivial
          refine gd (at_0 _ _) ?_
          decreasing_trivial
          refine gd (eq_text _ _) ?_
          rw [show decide (tl ("pick" : Str) = tl ("some" : Str)) = false by decide +kernel]
          decreasing_trivial
          refine x_up ?_
          decreasing_trivial
          refine gd (a := .str x) rfl ?_
          decreasing_trivial
          exact .inr (.inr ⟨rfl, rfl, rfl⟩)
        | _ => cases vb
      · rw [valB_some] at vb
        cases d with
        | tuple ds =>
          have vb' : eqTs ds (pickS ns ds) = true := vb
          have form := eqTs_form vb'
          generalize hz : pickS ns ds = zs at form
          have sub : ∀ z ∈ zs, z ∈ ns := fun z h => by rw [← hz] at h; exact (List.mem_filter.mp h).1
          have lz : zs.length ≤ 6 := by
            rw [← hz]
            exact Nat.le_trans (List.length_filter_le _ _) l6
          clear hz vb vb'
          subst form
          decreasing_trivial
          refine gd (at_0 _ _) ?_
          decreasing_trivial
          refine gd (eq_text _ _) ?_
          rw [some_some]
          decreasing_trivial
          refine t_tru ?_
          decreasing_trivial
          try refine ⟨_, rfl, ?_⟩
          cases zs with
          | nil =>
            refine .inr ⟨rfl, ?_⟩
            decreasing_trivial
            exact .inr (.inr ⟨rfl, rfl, rfl⟩)
          | cons z r =>
            refine .inl ⟨rfl, ?_⟩
            decreasing_trivial
            refine gd (show gJoin (.str "+") (.tuple ((z :: r).map .str)) = some (.str (Txt.join "+" (z :: r))) from join_plus nm sub (by omega)) ?_
            decreasing_trivial
            refine .inr (.inr ⟨rfl, rfl, ?_⟩)
            have e : strsOf ((z :: r).map .str) = z :: r := by unfold strsOf; rw [strs_map]; rfl
            show _ = Rx.ok (PyData.str (Txt.join "+" (strsOf ((z :: r).map .str))))
            rw [e]
        | _ => cases vb
      · cases d with
        | int i =>
          have hb : (decide ((a : Int) ≤ i) && decide (i ≤ (b : Int))) = true := vb
          rw [Bool.and_eq_true, decide_eq_true_eq, decide_eq_true_eq] at hb
          decreasing_trivial
          refine gd (at_0 _ _) ?_
          decreasing_trivial
          refine gd (eq_text _ _) ?_
          rw [count_some]
          decreasing_trivial
          refine x_up ?_
          decreasing_trivial
          refine gd (a := .str (toString i)) ?_ ?_
          · exact if_pos (Nat.lt_of_lt_of_le (lg (k := 30) (by decide) (by omega) (by omega)) (by decide))
          · decreasing_trivial
            exact .inr (.inr ⟨rfl, rfl, rfl⟩)
        | _ => cases vb
/-! ### what is drawn -/
theorem at_list2 (a b : PyData) {r : Int} {D : PyData → Prop} (h0 : 0 ≤ r) (h : r < 2) (k : D a ∧ D b) : Gd (gIx (.list [a, b]) (.int r)) D :=
  ix_list _ h0 h fun d hd => by
    rcases List.mem_cons.mp hd with rfl | hd
    · exact k.1
    · rw [List.mem_singleton] at hd; rw [hd]; exact k.2
end K04

namespace K04
open PySem PySem.Spec PyProof.Rows L2 Dl TL
theorem all_nil {p : PyData → Prop} : ∀ d ∈ ([] : List PyData), p d := fun _ h => by cases h
theorem all_cons {p : PyData → Prop} {a : PyData} {l : List PyData} (h : p a) (r : ∀ d ∈ l, p d) : ∀ d ∈ a :: l, p d := fun d hd => by
  rcases List.mem_cons.mp hd with e | e
  · rw [e]; exact h
  · exact r d e
theorem all_app {p : PyData → Prop} {a b : List PyData} (h : ∀ d ∈ a, p d) (g : ∀ d ∈ b, p d) : ∀ d ∈ a ++ b, p d := fun d hd => (List.mem_append.mp hd).elim (h d) (g d)
theorem at_neg {ds : List PyData} (h : ds ≠ []) {D : PyData → Prop} (k : ∀ d ∈ ds, D d) : Gd (gIx (.tuple ds) (.int (-1))) D := by
  have e : gIx (.tuple ds) (.int (-1)) = some (ds.getLast h) := by
    show atI ds (-1) = _
    conv => lhs; rw [← List.dropLast_concat_getLast h]
    exact atI_last _ _
  exact gd e (k _ (List.getLast_mem h))
theorem joinS_len (S : List Nat) : ∀ ps : List (List Nat), (joinL S ps).length ≤ sumL ps + ps.length * S.length
  | [] => Nat.zero_le _
  | [p] => by
    show p.length ≤ _
    rw [show sumL [p] = p.length by simp [sumL]]
    omega
  | p :: q :: r => by
    have ih := joinS_len S (q :: r)
    show (p ++ (S ++ joinL S (q :: r))).length ≤ _
    rw [List.length_append, List.length_append]
    have e : sumL (p :: q :: r) = p.length + sumL (q :: r) := by simp [sumL]
    have e2 : (p :: q :: r).length * S.length = S.length + (q :: r).length * S.length := by
      rw [List.length_cons, Nat.add_mul, Nat.one_mul, Nat.add_comm]
    omega
theorem joinS_mem (S : List Nat) {c : Nat} : ∀ ps : List (List Nat), c ∈ joinL S ps → c ∈ S ∨ ∃ p ∈ ps, c ∈ p
  | [], h => by cases h
  | [p], h => .inr ⟨p, List.mem_cons_self, h⟩
  | p :: q :: r, h => by
    have h' : c ∈ p ++ (S ++ joinL S (q :: r)) := h
    rcases List.mem_append.mp h' with a | a
    · exact .inr ⟨p, List.mem_cons_self, a⟩
    · rcases List.mem_append.mp a with a | a
      · exact .inl a
      · rcases joinS_mem S (q :: r) a with b | ⟨p', hp, b⟩
        · exact .inl b
        · exact .inr ⟨p', List.mem_cons_of_mem _ hp, b⟩
theorem plus_tl : tl ("+" : Str) = [43] := by decide +kernel
theorem sum_few {m : Nat} : ∀ {ps : List (List Nat)}, (∀ p ∈ ps, p.length ≤ m) → sumL ps ≤ ps.length * m
  | [], _ => by simp [sumL]
  | p :: r, h => by
    have ih := sum_few (ps := r) fun q hq => h q (List.mem_cons_of_mem _ hq)
    have := h p List.mem_cons_self
    unfold sumL at ih ⊢
    rw [List.map_cons, List.sum_cons, List.length_cons, Nat.add_mul]
    omega
/-- the words of a kind -/
theorem plus_fit {ns : List Str} (nm : ∀ n ∈ ns, nameB (.str n) = true) (l6 : ns.length ≤ 6) (k : Nat) : Fit k (.str (Txt.join "+" ns)) := by
  have e : tl (Txt.join "+" ns) = joinL [43] (ns.map tl) := by rw [join_eq, tl_join, plus_tl]
  have sm : sumL (ns.map tl) ≤ ns.length * 8 := by
    have := sum_few (m := 8) (ps := ns.map tl) fun p hp => by
      obtain ⟨n, hn, rfl⟩ := List.mem_map.mp hp
      have := (nameB_parts (nm n hn)).2.1
      rw [← len_tl]
      exact this
    rw [List.length_map] at this
    exact this
  refine fit_str k ⟨?_, fun c hc => ?_⟩
  · rw [len_tl, e]
    have := joinS_len [43] (ns.map tl)
    rw [List.length_map] at this
    have l1 : [43].length = 1 := rfl
    rw [l1] at this
    omega
  · have hc' : c ∈ tl (Txt.join "+" ns) := hc
    rw [e] at hc'
    rcases joinS_mem _ _ hc' with z | ⟨p, hp, z⟩
    · rw [List.mem_singleton] at z; omega
    · obtain ⟨n, hn, rfl⟩ := List.mem_map.mp hp
      exact (nameB_parts (nm n hn)).2.2 c z
theorem num_fit {a : Nat} (h : a ≤ 1000000) (k : Nat) : Fit k (.str (toString (a : Int))) := by
  have e : tl (Str.ofString (toString (a : Int))) = numL a := tl_num a
  have l2 : (numL a).length ≤ 7 := numL_len (by decide) (by omega)
  have l3 := numL_digits a
  refine fit_str k ⟨?_, fun c hc => ?_⟩
  · rw [len_tl]
    show (tl (Str.ofString (toString (a : Int)))).length ≤ 2000
    rw [e]
    omega
  · have hc' : c ∈ tl (Str.ofString (toString (a : Int))) := hc
    rw [e] at hc'
    have := l3 c hc'
    omega
end K04

namespace Dl
open PySem PySem.Spec PyProof.Rows L2
section
variable {Q : PyData → Sl → Prop} {N : Sl → Prop} {R : PyData → Sl → Prop} {s : Sl} {i : Nat} {fo f1 f2 k1 k2 : DE}
theorem e_lenC {ds : List PyData} (c : contents s i = some ds) (k : Q (.int ds.length) s) : Ge (dLenC i s) Q := ⟨_, s, by unfold dLenC; rw [c]; rfl, k⟩
theorem e_slC {lo hi : DO} {p0 : List PyData} (c : contents s i = some p0) (h : Ge (lo s) fun l s1 => Ge (hi s1) fun r s2 => ∃ ds, contents s2 i = some ds ∧ Q (.list (cutD ds l r)) s2) : Ge (dSlC i lo hi s) Q := by
  obtain ⟨l, s1, e1, r, s2, e2, ds, e3, k⟩ := h
  exact ⟨_, s2, by unfold dSlC; rw [c, Option.bind_some, e1, Option.bind_some, e2, Option.bind_some]; simp only [e3, Option.map_some], k⟩
theorem e_joinC (h : Ge (fo s) fun a s1 => ∃ x ds, a = .str x ∧ contents s1 i = some ds ∧ Gd (joinD x ds) fun d => Q d s1) : Ge (dJoinC fo i s) Q := by
  obtain ⟨a, s1, e1, x, ds, rfl, e2, d, e3, k⟩ := h
  exact ⟨d, s1, by unfold dJoinC; rw [e1, Option.bind_some, e2, Option.bind_some]; simp only [e3, Option.map_some], k⟩
theorem s_swp (h : Ge (f1 s) fun a s1 => Ge (f2 s1) fun b s2 => ∃ p0, contents s2 i = some p0 ∧ Ge (k1 s2) fun x s3 => ∃ (n1 : Int) (ds1 : List PyData), x = .int n1 ∧ contents s3 i = some ds1 ∧ Gd (ixN ds1.length n1) fun j1 =>
    Ge (k2 (setC s3 i (ds1.set j1 a))) fun y s4 => ∃ (n2 : Int) (ds2 : List PyData), y = .int n2 ∧ contents s4 i = some ds2 ∧ Gd (ixN ds2.length n2) fun j2 => N (setC s4 i (ds2.set j2 b))) : Gs (sSwp i f1 f2 k1 k2 s) N R := by
  obtain ⟨a, s1, e1, b, s2, e2, p0, e3, x, s3, e4, n1, ds1, rfl, e5, j1, e6, y, s4, e7, n2, ds2, rfl, e8, j2, e9, k⟩ := h
  refine ⟨.inl ⟨_, ?_, k⟩⟩
  unfold sSwp
  rw [e1, Option.bind_some, e2, Option.bind_some, e3, Option.bind_some, e4, Option.bind_some, e5, Option.bind_some]
  simp only [e6, Option.bind_some, e7, e8, e9, Option.map_some]
end
end Dl
namespace K04
open PySem PySem.Spec PyProof.Rows L2 Dl TL
local macro_rules | `(tactic| decreasing_trivial_pre_omega) => `(tactic| (first | with_reducible refine s_seq ?_ | with_reducible refine s_if ?_ | with_reducible refine s_set ?_ | with_reducible refine s_setIx ?_ | with_reducible refine s_ret ?_ | with_reducible refine s_nil ?_ | with_reducible refine s_own ?_ | with_reducible refine s_par ?_ | with_reducible refine t_tst ?_ | with_reducible refine t_and ?_ | with_reducible refine t_or ?_ | with_reducible refine t_not ?_ | with_reducible refine t_yes ?_ | with_reducible refine e_op ?_ | with_reducible refine e_un ?_ | with_reducible refine e_chain ?_ | with_reducible refine e_b ?_ | with_reducible refine e_c ?_ | with_reducible refine e_l ?_ | with_reducible refine e_tup ?_ | with_reducible refine e_call ?_ | with_reducible refine e_and ?_ | with_reducible refine e_or ?_ | with_reducible refine e_not ?_ | with_reducible refine e_if ?_ | with_reducible refine e_sl ?_ | with_reducible refine o_n ?_ | with_reducible refine o_s ?_ | with_reducible refine a_nil ?_ | with_reducible refine a_cons ?_ | with_reducible refine f_lst ?_ | with_reducible refine f_call ?_ | with_reducible refine f_itA ?_ | with_reducible refine f_r1 ?_ | with_reducible refine r_seq ?_ | with_reducible refine n_add ?_ | with_reducible refine n_sub ?_ | with_reducible refine n_gt ?_ | with_reducible refine n_ge ?_ | with_reducible refine n_lt ?_ | with_reducible refine n_le ?_ | with_reducible refine e_var (by with_unfolding_all rfl) ?_ | with_reducible refine e_ixc (by with_unfolding_all rfl) ?_ | with_reducible refine e_callM (by with_unfolding_all rfl) ?_ | with_reducible refine s_frz (by with_unfolding_all rfl) ?_ | with_reducible refine s_app (by with_unfolding_all rfl) ?_ | with_reducible refine few_and (by first | decide | (simp only [List.length_cons, List.length_nil, Nat.reduceAdd, Nat.reduceLeDiff])) ?_ | refine Or.inl ⟨by first | with_reducible rfl | with_reducible exact Bool.not_false, ?_⟩ | refine Or.inr ⟨by first | with_reducible rfl | with_reducible exact Bool.not_true, ?_⟩ | refine Exists.intro _ (Exists.intro _ ⟨rfl, rfl, gd rfl ?_⟩) | refine Exists.intro _ ⟨rfl, ?_⟩))
local macro_rules | `(tactic| decreasing_trivial) => `(tactic| repeat decreasing_trivial_pre_omega)
theorem split_at {n b : Nat} {x : Str} (h : TX n b x) (hn : n ≤ 2000) : gSplit (.str x) (.str " ") = some ((W x).map .str) := by
  unfold gSplit
  dsimp only
  rw [if_pos]
  · rfl
  · refine ⟨rfl, ?_⟩
    rw [len_tl]
    have := h.len
    exact Nat.le_trans (by omega : (tl x).length + 2 ≤ 2002) (by decide)
theorem join_at {ws : List Str} {n k : Nat} (h : WS n k ws) (hn : n + k ≤ 100000) : gJoin (.str " ") (.list (ws.map .str)) = some (.str (Txt.join sp ws)) := by
  show joinD _ _ = _
  unfold joinD
  rw [textsD_of, Option.bind_some]
  refine if_pos ?_
  have a := h.len
  have b := h.few
  have e : (ws.map (·.length)).sum = sumL (ws.map tl) := by
    unfold sumL
    rw [List.map_map]
    congr 1
  rw [e]
  have l1 : (" " : Str).length = 1 := rfl
  rw [l1]
  omega
/-! ### how many plus signs -/
def pc (x : Str) : Nat := (tl x).count 43
def pw (ws : List Str) : Nat := (ws.map pc).sum
theorem count_joinL : ∀ ps : List (List Nat), (joinL [32] ps).count 43 = (ps.map (List.count 43)).sum
  | [] => rfl
  | [p] => by show p.count 43 = _; simp
  | p :: q :: r => by
    have ih := count_joinL (q :: r)
    show (p ++ ([32] ++ joinL [32] (q :: r))).count 43 = _
    have : [32].count 43 = 0 := by decide
    rw [List.count_append, List.count_append, ih, this, Nat.zero_add]
    rfl
theorem pc_join (ws : List Str) : pc (Txt.join sp ws) = pw ws := by
  unfold pc pw
  rw [join_eq, tl_join, sp_tl, count_joinL, List.map_map]
  rfl
theorem pc_W (x : Str) : pw (W x) = pc x := by rw [← pc_join, W_back]
theorem pw_app (a b : List Str) : pw (a ++ b) = pw a + pw b := by
  unfold pw
  rw [List.map_append, List.sum_append]
theorem pw_sub {a b : List Str} (h : a.Sublist b) : pw a ≤ pw b := by
  unfold pw
  induction h with
  | slnil => exact Nat.le_refl _
  | cons x _ ih => rw [List.map_cons, List.sum_cons]; omega
  | cons_cons x _ ih => rw [List.map_cons, List.map_cons, List.sum_cons, List.sum_cons]; omega
theorem pw_mid (ws os : List Str) {p q : Nat} (l : p ≤ q) : pw (ws.take p ++ os ++ ws.drop q) ≤ pw ws + pw os := by
  have h : (ws.take p ++ ws.drop q).Sublist ws := by
    conv => rhs; rw [← List.take_append_drop p ws]
    exact List.Sublist.append (List.Sublist.refl _) (List.drop_sublist_drop_left ws l)
  have := pw_sub h
  rw [pw_app] at this
  rw [pw_app, pw_app]
  omega
theorem pw_one {ws : List Str} {z : Str} (h : z ∈ ws) : pc z ≤ pw ws := by
  have := pw_sub (List.singleton_sublist.mpr h)
  simpa [pw] using this
theorem pw_set : ∀ (ws : List Str) (j : Nat) (z : Str), pw (ws.set j z) ≤ pw ws + pc z
  | [], j, z => by simp [pw]
  | w :: ws, 0, z => by simp [pw]; omega
  | w :: ws, j + 1, z => by
    have ih := pw_set ws j z
    simp only [pw, List.set_cons_succ, List.map_cons, List.sum_cons] at ih ⊢
    omega
theorem cnt_mid {l : List Nat} {p q : Nat} (h : p ≤ q) : (l.take p).count 43 + (l.drop q).count 43 ≤ l.count 43 := by
  have s : (l.take p ++ l.drop q).Sublist l := by
    conv => rhs; rw [← List.take_append_drop p l]
    exact List.Sublist.append (List.Sublist.refl _) (List.drop_sublist_drop_left l h)
  have := s.count_le 43
  rwa [List.count_append] at this
theorem WS.mid {n k m : Nat} {ws os : List Str} (h : WS n k ws) (ho : sumL (os.map tl) ≤ m) (hs : ∀ w ∈ os, ∀ c ∈ tl w, c < 200) (hb : ∀ w ∈ os, 32 ∉ tl w) (p q : Nat) (l : p ≤ q) : WS (n + m) (k + os.length) (ws.take p ++ os ++ ws.drop q) := by
  refine ⟨?_, ?_, fun w hw => ?_, fun w hw => ?_⟩
  · rw [List.map_append, List.map_append, sumL_app, sumL_app, List.map_take, List.map_drop]
    have a := sumL_td (ws.map tl) p q l
    have := h.len
    omega
  · rw [List.length_append, List.length_append, List.length_take, List.length_drop]
    have := h.few
    omega
  · rcases List.mem_append.mp hw with z | z
    · rcases List.mem_append.mp z with z | z
      · exact h.sg w (List.mem_of_mem_take z)
      · exact hs w z
    · exact h.sg w (List.mem_of_mem_drop z)
  · rcases List.mem_append.mp hw with z | z
    · rcases List.mem_append.mp z with z | z
      · exact h.nb w (List.mem_of_mem_take z)
      · exact hb w z
    · exact h.nb w (List.mem_of_mem_drop z)
theorem WS.put {n k : Nat} {ws : List Str} (h : WS n k ws) {m : Nat} {z : Str} (l : (tl z).length ≤ m) (s : ∀ c ∈ tl z, c < 200) (b : 32 ∉ tl z) (j : Nat) : WS (n + m) k (ws.set j z) := by
  refine ⟨?_, by rw [List.length_set]; exact h.few, fun w hw => ?_, fun w hw => ?_⟩
  · rw [List.map_set]
    have a := sumL_set (ws.map tl) j (tl z)
    have := h.len
    omega
  · rcases List.mem_or_eq_of_mem_set hw with q | rfl
    · exact h.sg w q
    · exact s
  · rcases List.mem_or_eq_of_mem_set hw with q | rfl
    · exact h.nb w q
    · exact b
theorem len_mk (l : List Nat) : (⟨l.toArray⟩ : Str).length = l.length := by rw [len_tl]
def signs2 : Str := "abcdefghijklmnopqrstuvwxyz0123456789 -+()AZ.,~_\n"
theorem signs2_len : gLen [.str signs2] = some (.int 48) := rfl
theorem signs2_few : ∀ c ∈ signs2.cps.toList, c < 200 := by
  have e : signs2.cps.toList.all (fun c => decide (c < 200)) = true := by decide +kernel
  exact fun c hc => of_decide_eq_true (List.all_eq_true.mp e c hc)
/-- a word that is put in -/
def Wd (m e : Nat) (d : PyData) : Prop := ∃ z : Str, d = .str z ∧ (tl z).length ≤ m ∧ (∀ c ∈ tl z, c < 200) ∧ 32 ∉ tl z ∧ pc z ≤ e + 1
theorem wd_lit {x : Str} (n e : Nat) (h : (decide ((tl x).length ≤ 7) && ((tl x).all (fun c => decide (c < 200)) && (!(tl x).contains 32 && decide ((tl x).count 43 ≤ 1)))) = true) : Wd (n + 7) e (.str x) := by
  simp only [Bool.and_eq_true, decide_eq_true_eq, List.all_eq_true, Bool.not_eq_true', List.contains_eq_mem, decide_eq_false_iff_not] at h
  exact ⟨x, rfl, by omega, h.2.1, h.2.2.1, by unfold pc; omega⟩
theorem pc_mid {x : Str} {p q : Nat} (h : p ≤ q) : pc (⟨((tl x).take p).toArray⟩ ++ ⟨((tl x).drop q).toArray⟩) ≤ 3 * pc x + 1 := by
  have e : tl ((⟨((tl x).take p).toArray⟩ : Str) ++ ⟨((tl x).drop q).toArray⟩) = (tl x).take p ++ (tl x).drop q := by rw [tl_append]
  have := cnt_mid (l := tl x) h
  unfold pc
  rw [e, List.count_append]
  omega
theorem pc_mid1 {x : Str} {c p q : Nat} (h : p ≤ q) : pc (⟨((tl x).take p).toArray⟩ ++ ⟨#[c]⟩ ++ ⟨((tl x).drop q).toArray⟩) ≤ 3 * pc x + 1 := by
  have e : tl ((⟨((tl x).take p).toArray⟩ : Str) ++ ⟨#[c]⟩ ++ ⟨((tl x).drop q).toArray⟩) = (tl x).take p ++ [c] ++ (tl x).drop q := by rw [tl_append, tl_append]
  have := cnt_mid (l := tl x) h
  have l : [c].count 43 ≤ 1 := List.count_le_length
  unfold pc
  rw [e, List.count_append, List.count_append]
  omega
theorem join_data {ws : List Str} {n k : Nat} (h : WS n k ws) (hn : n + k ≤ 100000) : joinD " " (ws.map .str) = some (.str (Txt.join sp ws)) := join_at h hn
def tail2 : DS := (sSeq (sIf (dTst (dOp gLt (dVar 3) (dC (.int 3))))
  (sRet (dOp gIx (dL (fLst (aCons (dOp gAdd (dOp gAdd (dSl (dVar 1) oN (oS (dVar 4))) (dVar 5)) (dSl (dVar 1) (oS (dVar 4)) oN)) (aCons (dOp gAdd (dSl (dVar 1) oN (oS (dVar 4))) (dSl (dVar 1) (oS (dOp gAdd (dVar 4) (dC (.int 1)))) oN)) (aCons (dOp gAdd (dOp gAdd (dSl (dVar 1) oN (oS (dVar 4))) (dVar 5)) (dSl (dVar 1) (oS (dOp gAdd (dVar 4) (dC (.int 1)))) oN)) aNil))))) (dVar 3)))
  sNil)
  (sSeq (sSet 9 (dOp gIx (dL (fLst (aCons (dC (.str "is")) (aCons (dC (.str "0")) (aCons (dC (.str "and")) (aCons (dC (.str "-")) (aCons (dC (.str "(")) (aCons (dC (.str ")")) (aCons (dC (.str "a")) (aCons (dC (.str "not")) (aCons (dC (.str "")) (aCons (dC (.str "any")) (aCons (dC (.str "1000001")) (aCons (dC (.str "007")) (aCons (dC (.str "b+a")) (aCons (dIxC 6 (dVar 8)) aNil)))))))))))))))) (dCallM m__law_take 0 (aCons (dC (.int 14)) aNil))))
  (sSeq (sIf (dTst (dOp gEq (dVar 3) (dC (.int 3))))
  (sRet (dOp gJoin (dC (.str " ")) (dOp gAdd (dSlC 6 oN (oS (dVar 7))) (dSlC 6 (oS (dOp gAdd (dVar 7) (dC (.int 1)))) oN))))
  sNil)
  (sSeq (sIf (dTst (dOp gEq (dVar 3) (dC (.int 4))))
  (sRet (dOp gJoin (dC (.str " ")) (dOp gAdd (dOp gAdd (dSlC 6 oN (oS (dVar 7))) (dL (fLst (aCons (dVar 9) aNil)))) (dSlC 6 (oS (dVar 7)) oN))))
  sNil)
  (sSeq (sIf (dTst (dOp gEq (dVar 3) (dC (.int 5))))
  (sRet (dOp gJoin (dC (.str " ")) (dOp gAdd (dOp gAdd (dSlC 6 oN (oS (dVar 7))) (dL (fLst (aCons (dVar 9) aNil)))) (dSlC 6 (oS (dOp gAdd (dVar 7) (dC (.int 1)))) oN))))
  sNil)
  (sSeq (sSwp 6 (dIxC 6 (dVar 8)) (dIxC 6 (dVar 7)) (dVar 7) (dVar 8))
  (sRet (dJoinC (dC (.str " ")) 6))))))))
theorem tail2_ok {n b N : Nat} {x sgt : Str} {w : List Str} {p5 : List PyData} {way at_ pl to : Int} {c : Nat} {s : Sl} (hs : s = [.pot 0 p5, .dat (.str x), .dat (.str sgt), .dat (.int way), .dat (.int at_), .dat (.str ⟨#[c]⟩), .own (w.map .str), .dat (.int pl), .dat (.int to), .no])
    (hx : TX n b x) (hn : n ≤ 400) (hb : b ≤ 12) (lx : x.length ≤ 400) (ws : WS n (b + 1) w) (wfew : w.length ≤ b + 1) (cw : pw w = pc x) (w0 : 0 ≤ way) (w1 : way < 7) (a0 : 0 ≤ at_) (sg : TX 1 1 (⟨#[c]⟩ : Str)) (q0 : 0 ≤ pl) (q1 : pl < (w.length : Int)) (t0 : 0 ≤ to) (t1 : to < (w.length : Int)) (hp5 : Pot (N + 5) p5) (hN : N < 300000)
    {q : PyData → Sl → Prop} (hq : ∀ (y : Str) (s1 : Sl) (p : List PyData), TX (4 * n + 40) (b + 1) y → pc y ≤ 3 * pc x + 1 → s1[0]? = some (.pot 0 p) → Pot (N + 10) p → q (.str y) s1) : Gs (tail2 s) (fun _ => False) q := by
  subst hs
  unfold tail2
  decreasing_trivial
  by_cases c3 : way < 3
  · refine .inl ⟨decide_eq_true c3, ?_⟩
    decreasing_trivial
    have k1 : ((tl x).take at_.toNat).length ≤ 400 := by rw [List.length_take, ← len_tl]; omega
    have k2 : ∀ j, ((tl x).drop j).length ≤ 400 := fun j => by rw [List.length_drop, ← len_tl]; omega
    refine sl_take (by omega) a0 ?_
    decreasing_trivial
    refine cat_str (by rw [len_mk, len_one]; omega) ?_
    decreasing_trivial
    refine sl_drop (by omega) a0 ?_
    refine cat_str (by rw [len_cat, len_mk, len_one, len_mk]; have := k2 at_.toNat; omega) ?_
    decreasing_trivial
    refine sl_take (by omega) a0 ?_
    decreasing_trivial
    refine sl_drop (by omega) (by omega) ?_
    refine cat_str (by rw [len_mk, len_mk]; have := k2 (at_ + 1).toNat; omega) ?_
    decreasing_trivial
    refine sl_take (by omega) a0 ?_
    decreasing_trivial
    refine cat_str (by rw [len_mk, len_one]; omega) ?_
    decreasing_trivial
    refine sl_drop (by omega) (by omega) ?_
    refine cat_str (by rw [len_cat, len_mk, len_one, len_mk]; have := k2 (at_ + 1).toNat; omega) ?_
    decreasing_trivial
    have hy : ∀ d ∈ [PyData.str (⟨((tl x).take at_.toNat).toArray⟩ ++ ⟨#[c]⟩ ++ ⟨((tl x).drop at_.toNat).toArray⟩), .str (⟨((tl x).take at_.toNat).toArray⟩ ++ ⟨((tl x).drop (at_ + 1).toNat).toArray⟩), .str (⟨((tl x).take at_.toNat).toArray⟩ ++ ⟨#[c]⟩ ++ ⟨((tl x).drop (at_ + 1).toNat).toArray⟩)], ∃ y, d = .str y ∧ TX (4 * n + 40) (b + 1) y ∧ pc y ≤ 3 * pc x + 1 :=
      all_cons ⟨_, rfl, (tx_mid1 hx sg _ _ (Nat.le_refl _)).mono (by omega) (Nat.le_refl _), pc_mid1 (Nat.le_refl _)⟩ (all_cons ⟨_, rfl, (tx_mid hx _ _ (by omega)).mono (by omega) (by omega), pc_mid (by omega)⟩ (all_cons ⟨_, rfl, (tx_mid1 hx sg _ _ (by omega)).mono (by omega) (Nat.le_refl _), pc_mid1 (by omega)⟩ all_nil))
    refine ix_list _ w0 (by exact c3) fun d hd => ?_
    obtain ⟨y, rfl, ty, py⟩ := hy d hd
    exact hq _ _ p5 ty py rfl (hp5.mono (by omega))
  · refine .inr ⟨decide_eq_false c3, ?_⟩
    have one : ∀ z ∈ w, Wd (n + 7) (pc x) (.str z) := fun z hz => ⟨z, rfl, by have := ws.one hz; omega, ws.sg z hz, ws.nb z hz, by have := pw_one hz; rw [cw] at this; omega⟩
    have at_w : ∀ (r : Int), 0 ≤ r → r < (w.length : Int) → ∃ z ∈ w, atI (w.map PyData.str) r = some (.str z) := fun r r0 r1 => by
      obtain ⟨d, e, m⟩ := at_ok (w.map PyData.str) r0 (by rw [List.length_map]; exact r1)
      obtain ⟨z, hz, rfl⟩ := List.mem_map.mp m
      exact ⟨z, hz, e⟩
    obtain ⟨z1, hz1, ez1⟩ := at_w to t0 t1
    obtain ⟨z2, hz2, ez2⟩ := at_w pl q0 q1
    decreasing_trivial
    refine ⟨_, _, rfl, rfl, ?_⟩
    refine gd ez1 ?_
    decreasing_trivial
    refine pot_at hp5 (by omega) (by decide) (by decide) fun r6 p6 u0 u1 hp6 => ?_
    have ho : ∀ d ∈ [PyData.str "is", .str "0", .str "and", .str "-", .str "(", .str ")", .str "a", .str "not", .str "", .str "any", .str "1000001", .str "007", .str "b+a", .str z1], Wd (n + 7) (pc x) d :=
      all_cons (wd_lit n (pc x) (by decide +kernel)) (all_cons (wd_lit n (pc x) (by decide +kernel)) (all_cons (wd_lit n (pc x) (by decide +kernel)) (all_cons (wd_lit n (pc x) (by decide +kernel)) (all_cons (wd_lit n (pc x) (by decide +kernel)) (all_cons (wd_lit n (pc x) (by decide +kernel)) (all_cons (wd_lit n (pc x) (by decide +kernel)) (all_cons (wd_lit n (pc x) (by decide +kernel)) (all_cons (wd_lit n (pc x) (by decide +kernel)) (all_cons (wd_lit n (pc x) (by decide +kernel)) (all_cons (wd_lit n (pc x) (by decide +kernel)) (all_cons (wd_lit n (pc x) (by decide +kernel)) (all_cons (wd_lit n (pc x) (by decide +kernel)) (all_cons (one z1 hz1) all_nil)))))))))))))
    refine ix_list _ u0 (by exact u1) fun o hoo => ?_
    obtain ⟨oz, rfl, ol, os, ob, op⟩ := ho o hoo
    have om : sumL ([oz].map tl) ≤ n + 7 := by simp only [sumL, List.map_cons, List.map_nil, List.sum_cons, List.sum_nil]; omega
    have os' : ∀ w ∈ [oz], ∀ c ∈ tl w, c < 200 := fun w hw => by rw [List.mem_singleton] at hw; subst hw; exact os
    have ob' : ∀ w ∈ [oz], 32 ∉ tl w := fun w hw => by rw [List.mem_singleton] at hw; subst hw; exact ob
    have hp6' := hp6.mono (by omega : N + 5 + 1 ≤ N + 10)
    decreasing_trivial
    refine gd (a := .bool (decide (way = 3))) rfl ?_
    decreasing_trivial
    by_cases e3 : way = 3
    · refine .inl ⟨decide_eq_true e3, ?_⟩
      decreasing_trivial
      refine e_slC rfl ?_
      decreasing_trivial
      refine e_slC rfl ?_
      decreasing_trivial
      rw [cut_take _ q0, cut_drop _ (by omega), ← List.map_take, ← List.map_drop]
      refine cat_list (by rw [List.length_map, List.length_map, List.length_take, List.length_drop]; omega) ?_
      rw [← List.map_append]
      have m := ws.mid (m := 0) (os := []) (by simp [sumL]) (fun _ z => by cases z) (fun _ z => by cases z) pl.toNat (pl + 1).toNat (by omega)
      rw [List.append_nil] at m
      refine gd (join_at m (by simp only [List.length_nil]; omega)) ?_
      exact hq _ _ p6 (m.text.mono (by simp only [List.length_nil]; omega) (by simp only [List.length_nil]; omega)) (by rw [pc_join]; have := pw_mid w [] (p := pl.toNat) (q := (pl + 1).toNat) (by omega); rw [List.append_nil, cw] at this; simp only [pw, List.map_nil, List.sum_nil] at this ⊢; omega) rfl hp6'
    · refine .inr ⟨decide_eq_false e3, ?_⟩
      decreasing_trivial
      refine gd (a := .bool (decide (way = 4))) rfl ?_
      decreasing_trivial
      by_cases e4 : way = 4
      · refine .inl ⟨decide_eq_true e4, ?_⟩
        decreasing_trivial
        refine e_slC rfl ?_
        decreasing_trivial
        decreasing_trivial
        rw [cut_take _ q0, ← List.map_take, show [PyData.str oz] = [oz].map .str from rfl]
        refine cat_list (by rw [List.length_map, List.length_map, List.length_take, List.length_singleton]; omega) ?_
        rw [← List.map_append]
        refine e_slC rfl ?_
        decreasing_trivial
        rw [cut_drop _ q0, ← List.map_drop]
        refine cat_list (by rw [List.length_map, List.length_map, List.length_append, List.length_take, List.length_drop, List.length_singleton]; omega) ?_
        rw [← List.map_append]
        have m := ws.mid om os' ob' pl.toNat pl.toNat (Nat.le_refl _)
        refine gd (join_at m (by rw [List.length_singleton]; omega)) ?_
        exact hq _ _ p6 (m.text.mono (by rw [List.length_singleton]; omega) (by rw [List.length_singleton]; omega)) (by rw [pc_join]; refine Nat.le_trans (pw_mid w [oz] (by omega)) ?_; rw [cw]; simp only [pw, List.map_cons, List.map_nil, List.sum_cons, List.sum_nil]; omega) rfl hp6'
      · refine .inr ⟨decide_eq_false e4, ?_⟩
        decreasing_trivial
        refine gd (a := .bool (decide (way = 5))) rfl ?_
        decreasing_trivial
        by_cases e5 : way = 5
        · refine .inl ⟨decide_eq_true e5, ?_⟩
          decreasing_trivial
          refine e_slC rfl ?_
          decreasing_trivial
          decreasing_trivial
          rw [cut_take _ q0, ← List.map_take, show [PyData.str oz] = [oz].map .str from rfl]
          refine cat_list (by rw [List.length_map, List.length_map, List.length_take, List.length_singleton]; omega) ?_
          rw [← List.map_append]
          refine e_slC rfl ?_
          decreasing_trivial
          rw [cut_drop _ (by omega), ← List.map_drop]
          refine cat_list (by rw [List.length_map, List.length_map, List.length_append, List.length_take, List.length_drop, List.length_singleton]; omega) ?_
          rw [← List.map_append]
          have m := ws.mid om os' ob' pl.toNat (pl + 1).toNat (by omega)
          refine gd (join_at m (by rw [List.length_singleton]; omega)) ?_
          exact hq _ _ p6 (m.text.mono (by rw [List.length_singleton]; omega) (by rw [List.length_singleton]; omega)) (by rw [pc_join]; refine Nat.le_trans (pw_mid w [oz] (by omega)) ?_; rw [cw]; simp only [pw, List.map_cons, List.map_nil, List.sum_cons, List.sum_nil]; omega) rfl hp6'
        · refine .inr ⟨decide_eq_false e5, ?_⟩
          refine s_nil ?_
          refine s_seq ?_
          refine s_swp ?_
          decreasing_trivial
          refine ⟨_, _, rfl, rfl, ?_⟩
          refine gd ez1 ?_
          decreasing_trivial
          refine ⟨_, _, rfl, rfl, ?_⟩
          refine gd ez2 ?_
          refine ⟨_, rfl, ?_⟩
          decreasing_trivial
          refine ⟨pl, _, rfl, rfl, ?_⟩
          have ip : ixN (w.map PyData.str).length pl = some pl.toNat := by
            unfold ixN
            rw [List.length_map, if_pos q0, if_pos q1]
          refine gd ip ?_
          decreasing_trivial
          refine ⟨to, _, rfl, rfl, ?_⟩
          have it : ixN ((w.map PyData.str).set pl.toNat (.str z1)).length to = some to.toNat := by
            unfold ixN
            rw [List.length_set, List.length_map, if_pos t0, if_pos t1]
          refine gd it ?_
          refine s_ret ?_
          refine e_joinC ?_
          decreasing_trivial
          refine ⟨_, _, rfl, rfl, ?_⟩
          have eq : ((w.map PyData.str).set pl.toNat (.str z1)).set to.toNat (.str z2) = ((w.set pl.toNat z1).set to.toNat z2).map .str := by
            rw [List.map_set, List.map_set]
          rw [eq]
          have m := (ws.put (ws.one hz1) (ws.sg z1 hz1) (ws.nb z1 hz1) pl.toNat).put (ws.one hz2) (ws.sg z2 hz2) (ws.nb z2 hz2) to.toNat
          refine gd (join_data m (by omega)) ?_
          exact hq _ _ p6 (m.text.mono (by omega) (by omega)) (by rw [pc_join]; have a := pw_set (w.set pl.toNat z1) to.toNat z2; have b := pw_set w pl.toNat z1; have c := pw_one hz1; have d := pw_one hz2; omega) rfl hp6'
theorem text_bent_ok {n b N : Nat} {x : Str} {pd : List PyData} (hx : TX n b x) (hn : n ≤ 400) (hb : b ≤ 12) (h : Pot N pd) (hN : N < 300000) : Gd (m__law_text_bent pd [.str x]) fun q => ∃ y, q.1 = .str y ∧ TX (4 * n + 40) (b + 1) y ∧ pc y ≤ 3 * pc x + 1 ∧ Pot (N + 10) q.2 := by
  have lx : x.length ≤ 400 := by rw [len_tl]; have := hx.len; omega
  have ws := hx.words
  have es := split_at hx (by omega)
  have wne : 1 ≤ (W x).length := List.length_pos_iff.mpr (W_ne x)
  have wfew := ws.few
  have cw := pc_W x
  generalize hw : W x = w at ws es wne wfew cw
  unfold m__law_text_bent
  refine m_fnM rfl ?_
  unfold b__law_text_bent
  decreasing_trivial
  refine pot_at h (by omega) (by decide) (by decide) fun way p1 w0 w1 hp1 => ?_
  decreasing_trivial
  refine gd (a := .int (x.length : Nat)) (by unfold gLen; exact if_pos (Nat.le_trans lx (by decide))) ?_
  decreasing_trivial
  refine pot_at hp1 (by omega) (by omega) (by omega) fun at_ p2 a0 a1 hp2 => ?_
  decreasing_trivial
  refine gd signs2_len ?_
  decreasing_trivial
  refine pot_at hp2 (by omega) (by decide) (by decide) fun r3 p3 c0 c1 hp3 => ?_
  refine ix_str signs2 (by decide) c0 (by exact c1) fun c hc => ?_
  have sg : TX 1 1 (⟨#[c]⟩ : Str) := by
    refine ⟨by show [c].length ≤ 1; simp, fun d hd => ?_, ?_⟩
    · have hd : d ∈ [c] := hd
      rw [List.mem_singleton] at hd
      subst hd
      exact signs2_few _ hc
    · show [c].count 32 ≤ 1
      exact List.count_le_length
  decreasing_trivial
  refine f_split ?_
  decreasing_trivial
  refine gd es ?_
  refine ⟨by show 6 < 10; decide, ?_⟩
  decreasing_trivial
  refine e_lenC rfl ?_
  decreasing_trivial
  rw [List.length_map]
  refine pot_at hp3 (by omega) (by omega) (by omega) fun pl p4 q0 q1 hp4 => ?_
  decreasing_trivial
  refine e_lenC rfl ?_
  decreasing_trivial
  rw [List.length_map]
  refine pot_at hp4 (by omega) (by omega) (by omega) fun to p5 t0 t1 hp5 => ?_
  repeat (first | exact (gs_mono (tail2_ok rfl hx hn hb lx ws wfew cw w0 w1 a0 sg q0 q1 t0 t1 hp5 (by omega) (fun y s1 p ty py e hp => ⟨p, by rw [e]; rfl, y, rfl, ty, py, hp⟩)) (fun _ z => z.elim) (fun _ _ z => z)) | decreasing_trivial_pre_omega)
end K04

namespace K04
open PySem PySem.Spec PyProof.Rows L2 Dl TL
local macro_rules | `(tactic| decreasing_trivial_pre_omega) => `(tactic| (first | with_reducible refine s_seq ?_ | with_reducible refine s_if ?_ | with_reducible refine s_set ?_ | with_reducible refine s_setIx ?_ | with_reducible refine s_ret ?_ | with_reducible refine s_nil ?_ | with_reducible refine s_own ?_ | with_reducible refine s_par ?_ | with_reducible refine t_tst ?_ | with_reducible refine t_and ?_ | with_reducible refine t_or ?_ | with_reducible refine t_not ?_ | with_reducible refine t_yes ?_ | with_reducible refine e_op ?_ | with_reducible refine e_un ?_ | with_reducible refine e_chain ?_ | with_reducible refine e_b ?_ | with_reducible refine e_c ?_ | with_reducible refine e_l ?_ | with_reducible refine e_tup ?_ | with_reducible refine e_call ?_ | with_reducible refine e_and ?_ | with_reducible refine e_or ?_ | with_reducible refine e_not ?_ | with_reducible refine e_if ?_ | with_reducible refine e_sl ?_ | with_reducible refine o_n ?_ | with_reducible refine o_s ?_ | with_reducible refine a_nil ?_ | with_reducible refine a_cons ?_ | with_reducible refine f_lst ?_ | with_reducible refine f_call ?_ | with_reducible refine f_itA ?_ | with_reducible refine f_r1 ?_ | with_reducible refine r_seq ?_ | with_reducible refine n_add ?_ | with_reducible refine n_sub ?_ | with_reducible refine n_gt ?_ | with_reducible refine n_ge ?_ | with_reducible refine n_lt ?_ | with_reducible refine n_le ?_ | with_reducible refine e_var (by with_unfolding_all rfl) ?_ | with_reducible refine e_ixc (by with_unfolding_all rfl) ?_ | with_reducible refine e_callM (by with_unfolding_all rfl) ?_ | with_reducible refine s_frz (by with_unfolding_all rfl) ?_ | with_reducible refine s_app (by with_unfolding_all rfl) ?_ | with_reducible refine few_and (by first | decide | (simp only [List.length_cons, List.length_nil, Nat.reduceAdd, Nat.reduceLeDiff])) ?_ | refine Or.inl ⟨by first | with_reducible rfl | with_reducible exact Bool.not_false, ?_⟩ | refine Or.inr ⟨by first | with_reducible rfl | with_reducible exact Bool.not_true, ?_⟩ | refine Exists.intro _ (Exists.intro _ ⟨rfl, rfl, gd rfl ?_⟩) | refine Exists.intro _ ⟨rfl, ?_⟩))
local macro_rules | `(tactic| decreasing_trivial) => `(tactic| repeat decreasing_trivial_pre_omega)
/-! ### texts cut at plus signs -/
theorem spl_spP (c : Nat) (r acc : List Nat) : spl [43] 0 acc (c :: r) = if c = 43 then acc :: spl [43] 0 [] r else spl [43] 0 (acc ++ [c]) r := by
  show (if pre [43] (c :: r) = true then acc :: spl [43] 0 [] r else spl [43] 0 (acc ++ [c]) r) = _
  have e : pre [43] (c :: r) = decide (c = 43) := by
    show ([c] == [43]) = _
    by_cases h : c = 43
    · subst h; rfl
    · have : ([c] == [43]) = false := by
        rw [beq_eq_false_iff_ne]
        intro z
        exact h (List.cons.inj z).1
      rw [this, decide_eq_false h]
  rw [e]
  by_cases h : c = 43
  · simp [h]
  · simp [h]
theorem spl_neP : ∀ (l acc : List Nat), spl [43] 0 acc l ≠ []
  | [], acc => by rw [spl_nil]; simp
  | c :: r, acc => by
    rw [spl_spP]
    split
    · simp
    · exact spl_neP r _
theorem spl_backP : ∀ (l acc : List Nat), joinL [43] (spl [43] 0 acc l) = acc ++ l
  | [], acc => by rw [spl_nil]; show acc = acc ++ []; rw [List.append_nil]
  | c :: r, acc => by
    rw [spl_spP]
    split
    · rename_i h
      subst h
      have ih := spl_backP r []
      cases q : spl [43] 0 [] r with
      | nil => exact absurd q (spl_neP r [])
      | cons z zs =>
        rw [q] at ih
        show acc ++ ([43] ++ joinL [43] (z :: zs)) = _
        rw [ih]
        rfl
    · rw [spl_backP r _, List.append_assoc]
      rfl
theorem spl_lenP : ∀ (l acc : List Nat), (spl [43] 0 acc l).length = l.count 43 + 1
  | [], acc => by rw [spl_nil]; rfl
  | c :: r, acc => by
    rw [spl_spP]
    split
    · rename_i h
      subst h
      rw [List.length_cons, spl_lenP r [], List.count_cons_self]
    · rename_i h
      rw [spl_lenP r _, List.count_cons_of_ne h]
theorem spl_partsP : ∀ (l acc : List Nat), 43 ∉ acc → (∀ p ∈ spl [43] 0 acc l, 43 ∉ p ∧ ∀ c ∈ p, c ∈ acc ∨ c ∈ l) ∧ sumL (spl [43] 0 acc l) ≤ acc.length + l.length
  | [], acc, h => by
    rw [spl_nil]
    refine ⟨fun p hp => ?_, ?_⟩
    · rw [List.mem_singleton] at hp
      subst hp
      exact ⟨h, fun c hc => .inl hc⟩
    · simp [sumL]
  | c :: r, acc, h => by
    rw [spl_spP]
    split
    · rename_i hc
      obtain ⟨a, b⟩ := spl_partsP r [] (by simp)
      refine ⟨fun p hp => ?_, ?_⟩
      · rcases List.mem_cons.mp hp with rfl | hp
        · exact ⟨h, fun c hc => .inl hc⟩
        · obtain ⟨a1, a2⟩ := a p hp
          exact ⟨a1, fun d hd => (a2 d hd).elim (fun z => by cases z) fun z => .inr (List.mem_cons_of_mem _ z)⟩
      · unfold sumL at b ⊢
        rw [List.map_cons, List.sum_cons]
        simp only [List.length_cons, List.length_nil] at b ⊢
        omega
    · rename_i hc
      obtain ⟨a, b⟩ := spl_partsP r (acc ++ [c]) (by simp [h, Ne.symm hc])
      refine ⟨fun p hp => ?_, ?_⟩
      · obtain ⟨a1, a2⟩ := a p hp
        refine ⟨a1, fun d hd => ?_⟩
        rcases a2 d hd with z | z
        · rcases List.mem_append.mp z with z | z
          · exact .inl z
          · rw [List.mem_singleton] at z
            subst z
            exact .inr List.mem_cons_self
        · exact .inr (List.mem_cons_of_mem _ z)
      · rw [List.length_append] at b
        simp only [List.length_cons, List.length_nil] at b ⊢
        omega
abbrev spP : Str := "+"
def PL (x : Str) : List Str := Txt.split x spP
theorem sp_tlP : tl spP = [43] := by decide +kernel
theorem W_tlP (x : Str) : (PL x).map tl = spl [43] 0 [] (tl x) := by
  have e := split_spl x spP (by rw [sp_tlP]; simp) (TL.kind_ok (by decide +kernel))
  rw [sp_tlP] at e
  exact e
theorem W_backP (x : Str) : Txt.join spP (PL x) = x := by
  apply ext_tl
  rw [join_eq, tl_join, W_tlP, sp_tlP, spl_backP]
  rfl
theorem W_neP (x : Str) : PL x ≠ [] := fun e => by
  have := W_tlP x
  rw [e] at this
  exact spl_neP _ _ this.symm
theorem name_signs {x : Str} (h : nameB (.str x) = true) : (1 ≤ (tl x).length ∧ (tl x).length ≤ 8) ∧ ∀ c ∈ tl x, 97 ≤ c ∧ c ≤ 122 := by
  unfold nameB at h
  simp only [Bool.and_eq_true, decide_eq_true_eq, List.all_eq_true] at h
  obtain ⟨⟨l1, l2⟩, _, h3⟩ := h
  rw [len_tl] at l1 l2
  refine ⟨⟨l1, l2⟩, fun c hc => ?_⟩
  have := h3 c hc
  unfold letter at this
  simp only [Bool.and_eq_true, decide_eq_true_eq] at this
  exact this
theorem PL_len (x : Str) : (PL x).length = pc x + 1 := by
  have l := spl_lenP (tl x) []
  rw [← W_tlP, List.length_map] at l
  exact l
theorem PL_fit {x : Str} {j : Nat} (h : Fit j (.str x)) (k : Nat) : ∀ z ∈ PL x, Fit k (.str z) := fun z hz => by
  have hx : x.length ≤ 2000 ∧ ∀ c ∈ x.cps.toList, c < 200 := by cases j <;> exact h
  obtain ⟨p1, p2⟩ := spl_partsP (tl x) [] (by simp)
  rw [← W_tlP] at p1 p2
  have hm : tl z ∈ (PL x).map tl := List.mem_map_of_mem hz
  refine fit_str k ⟨?_, fun c hc => ?_⟩
  · have a := sum_ge hm
    have b := hx.1
    rw [len_tl] at b ⊢
    simp only [List.length_nil] at p2
    omega
  · exact hx.2 c (((p1 _ hm).2 c hc).elim (fun z => by cases z) id)
theorem split_plus {x : Str} {j : Nat} (h : Fit j (.str x)) : gSplit (.str x) (.str "+") = some ((PL x).map .str) := by
  have hx : x.length ≤ 2000 := by cases j <;> exact h.1
  unfold gSplit
  dsimp only
  rw [if_pos]
  · rfl
  · exact ⟨rfl, Nat.le_trans (by omega : x.length + 2 ≤ 2002) (by decide)⟩
theorem dash_tl : tl ("-" : Str) = [45] := by decide +kernel
/-- what a word of a kind makes of a text -/
def inW (w y : Str) : PyData := if decide (tl w = tl ("pick" : Str)) = true then .str y else if decide (tl w = tl ("some" : Str)) = true then (if decide (tl y = tl ("-" : Str)) = true then .tuple [] else .tuple ((PL y).map .str)) else numD y
def inV (kd : PyData) (y : Str) : PyData := match kd with
  | .tuple (.str w :: _) => inW w y
  | _ => .none
theorem inW_fit {w y : Str} {j : Nat} (h : Fit j (.str y)) (p : pc y ≤ 19) : Fit 1 (inW w y) := by
  unfold inW
  split
  · exact fit_str 1 (by cases j <;> exact h)
  · split
    · split
      · exact fit_nil _
      · refine fit_tup (by rw [List.length_map, PL_len]; omega) fun d hd => ?_
        obtain ⟨z, hz, rfl⟩ := List.mem_map.mp hd
        exact PL_fit h 0 z hz
    · unfold numD
      split
      · rename_i c
        unfold numB at c
        simp only [Bool.and_eq_true, decide_eq_true_eq] at c
        have v := c.2.2.2
        refine fit_int _ ?_
        rw [Int.natAbs_natCast]
        exact Nat.lt_of_le_of_lt v (by decide)
      · exact fit_none _
theorem value_in_ok {w y : Str} {j : Nat} (h : Fit j (.str y)) : Gd (m__value_in [.str w, .str y]) fun r => r = inW w y := by
  unfold m__value_in
  refine m_fnP rfl ?_
  unfold b__value_in
  decreasing_trivial
  refine gd (eq_text _ _) ?_
  unfold inW
  cases c1 : decide (tl w = tl ("pick" : Str)) with
  | true =>
    decreasing_trivial
    rfl
  | false =>
    decreasing_trivial
    refine gd (eq_text _ _) ?_
    cases c2 : decide (tl w = tl ("some" : Str)) with
    | true =>
      decreasing_trivial
      refine gd (eq_text _ _) ?_
      cases c3 : decide (tl y = tl ("-" : Str)) with
      | true =>
        decreasing_trivial
        rfl
      | false =>
        decreasing_trivial
        refine f_split ?_
        decreasing_trivial
        refine gd (split_plus h) ?_
        decreasing_trivial
        refine gd (a := .tuple ((PL y).map .str)) rfl ?_
        decreasing_trivial
        rfl
    | false =>
      decreasing_trivial
      refine gd_mono (number_in_ok h) fun r hr => ?_
      subst hr
      decreasing_trivial
      rfl
theorem kind_head {kd : PyData} (kb : kindB kd = true) : ∃ w r, kd = .tuple (.str w :: r) := by
  rcases kind_form' kb with ⟨w, ns, _, _, _, _, _, rfl⟩ | ⟨a, b, _, _, rfl⟩
  · exact ⟨_, _, rfl⟩
  · exact ⟨_, _, rfl⟩
theorem val_none {kd : PyData} (kb : kindB kd = true) : valB kd .none = false := by
  rcases kind_form' kb with ⟨w, ns, rfl | rfl, _, _, _, _, rfl⟩ | ⟨a, b, _, _, rfl⟩
  · rw [valB_pick]; rfl
  · rw [valB_some]; rfl
  · rfl
/-- what is read out of a thing -/
def readD (kd : PyData) : PyData → PyData
  | .str y => inV kd y
  | _ => .none
def fewP : PyData → Prop
  | .str y => pc y ≤ 19
  | _ => True
def rxR (kd d : PyData) : Rx PyData := if kindB kd = true then (if valB kd (readD kd d) = true then .ok (readD kd d) else .ex "NoValue") else .ex "NoKind"
theorem rxR_no {kd d : PyData} (h : kindB kd = false) : rxR kd d = .ex "NoKind" := by unfold rxR; rw [h]; rfl
theorem rxR_bad {kd d : PyData} (h : kindB kd = true) (v : valB kd (readD kd d) = false) : rxR kd d = .ex "NoValue" := by unfold rxR; rw [h, v]; rfl
theorem rxR_ok {kd d : PyData} (h : kindB kd = true) (v : valB kd (readD kd d) = true) : rxR kd d = .ok (readD kd d) := by unfold rxR; rw [h, v]; rfl
theorem read_value_ok {k j : Nat} {kd d : PyData} (hk : Fit k kd) (hd : Fit j d) (fp : fewP d) : Gd (m_read_value [kd, d]) fun r => r = rxR kd d := by
  unfold m_read_value
  refine m_fnX rfl ?_
  unfold b_read_value
  refine x_seq ?_
  refine x_drop ?_
  decreasing_trivial
  refine gd_mono (check_kind_ok hk) fun r hr => ?_
  refine drop_kind hr (fun kb => ?_) (fun kb => ?_)
  · have tail : ∀ v, Fit 1 v → v = readD kd d → Gx ((xsSeq (xsIfX (xNotT (xTst (xCall m_is_value (aCons (dVar 0) (aCons (dVar 2) aNil))))) (xsRaise "NoValue") (xsUp sNil)) (xsUp (sRet (dVar 2)))) [.dat kd, .dat d, .dat v]) (fun _ => Rx.ok PyData.none = rxR kd d) (fun e _ => Rx.ok e = rxR kd d) (fun c => Rx.ex c = rxR kd d) := fun v fv ev => by
      refine x_seq ?_
      refine x_ifnot ?_
      decreasing_trivial
      refine gd_mono (is_value_ok hk fv) fun r hr => ?_
      subst hr
      rw [rxV_ok kb]
      refine .inl ⟨_, rfl, ?_⟩
      cases vb : valB kd v with
      | false =>
        refine .inl ⟨rfl, x_raise ?_⟩
        exact (rxR_bad kb (by rw [← ev]; exact vb)).symm
      | true =>
        refine .inr ⟨rfl, x_up ?_⟩
        decreasing_trivial
        refine x_up ?_
        decreasing_trivial
        rw [ev]
        exact (rxR_ok kb (by rw [← ev]; exact vb)).symm
    refine x_seq (x_up ?_)
    decreasing_trivial
    refine gd (isi_str_fit hd) ?_
    obtain ⟨w, r, rfl⟩ := kind_head kb
    cases d with
    | str y =>
      refine ⟨_, rfl, .inl ⟨rfl, ?_⟩⟩
      decreasing_trivial
      refine gd (at_0 _ _) ?_
      decreasing_trivial
      refine gd_mono (value_in_ok hd) fun v hv => ?_
      subst hv
      decreasing_trivial
      exact tail _ (inW_fit hd fp) rfl
    | _ =>
      refine ⟨_, rfl, .inr ⟨rfl, ?_⟩⟩
      decreasing_trivial
      exact tail _ (fit_none _) rfl
  · exact (rxR_no kb).symm
/-- what the law says is due -/
def dueD (kd : PyData) (y : Str) : PyData := if valB kd (inV kd y) = true then inV kd y else .none
theorem ne_dash (y : Str) : gNe (.str y) (.str "-") = some (.bool (!decide (tl y = tl ("-" : Str)))) := ne_text' _ _
theorem due_ok {j : Nat} {kd : PyData} {y : Str} (kb : kindB kd = true) (h : Fit j (.str y)) (p : pc y ≤ 19) : Gd (m__law_due [kd, .str y]) fun r => r = dueD kd y := by
  unfold m__law_due
  refine m_fnP rfl ?_
  unfold b__law_due
  decreasing_trivial
  have tail : ∀ (v : PyData) (s : Sl), Fit 1 v → v = inV kd y → s[2]? = some (.dat v) → Gd (m__law_is_value [kd, v]) fun d => ∃ b, d = .bool b ∧ ((b = true ∧ Ge (dVar 2 s) fun d _ => d = dueD kd y) ∨ b = false ∧ Ge (dC .none s) fun d _ => d = dueD kd y) := fun v s fv ev hs => by
    refine gd_mono (law_is_value_ok kb fv) fun r hr => ?_
    subst hr
    refine ⟨_, rfl, ?_⟩
    unfold dueD
    rw [← ev]
    cases vb : valB kd v with
    | true => exact .inl ⟨rfl, e_var hs rfl⟩
    | false => exact .inr ⟨rfl, e_c rfl⟩
  have fv : ∀ w, Fit 1 (inW w y) := fun w => inW_fit h p
  rcases kind_form' kb with ⟨w, ns, rfl | rfl, ne, l6, nm, nd, rfl⟩ | ⟨a, b, ab, bm, rfl⟩
  · refine gd (at_0 _ _) ?_
    decreasing_trivial
    refine gd (eq_text _ _) ?_
    rw [show decide (tl ("pick" : Str) = tl ("some" : Str)) = false by decide +kernel]
    decreasing_trivial
    refine gd (at_0 _ _) ?_
    decreasing_trivial
    refine gd (eq_text _ _) ?_
    rw [show decide (tl ("pick" : Str) = tl ("count" : Str)) = false by decide +kernel]
    decreasing_trivial
    have e : PyData.str y = inW "pick" y := by unfold inW; rw [if_pos tl_pick]
    exact tail _ _ (by rw [e]; exact fv _) e rfl
  · refine gd (at_0 _ _) ?_
    decreasing_trivial
    refine gd (eq_text _ _) ?_
    rw [some_some]
    decreasing_trivial
    refine gd (ne_dash _) ?_
    have e : inW "some" y = if decide (tl y = tl ("-" : Str)) = true then .tuple [] else .tuple ((PL y).map .str) := by
      unfold inW
      rw [if_neg (by rw [some_pick]; decide), if_pos some_some]
    have f2 := fv "some"
    have t2 := fun v s q (e' : v = inW "some" y) => tail v s q e'
    rw [e] at f2 t2
    cases c3 : decide (tl y = tl ("-" : Str)) with
    | true =>
      rw [c3] at f2 t2
      decreasing_trivial
      refine gd (at_0 _ _) ?_
      decreasing_trivial
      refine gd (eq_text _ _) ?_
      rw [show decide (tl ("some" : Str) = tl ("count" : Str)) = false by decide +kernel]
      decreasing_trivial
      exact t2 _ _ f2 rfl rfl
    | false =>
      rw [c3] at f2 t2
      decreasing_trivial
      refine f_split ?_
      decreasing_trivial
      refine gd (split_plus h) ?_
      decreasing_trivial
      refine gd (a := .tuple ((PL y).map .str)) rfl ?_
      decreasing_trivial
      refine gd (at_0 _ _) ?_
      decreasing_trivial
      refine gd (eq_text _ _) ?_
      rw [show decide (tl ("some" : Str) = tl ("count" : Str)) = false by decide +kernel]
      decreasing_trivial
      exact t2 _ _ f2 rfl rfl
  · refine gd (at_0 _ _) ?_
    decreasing_trivial
    refine gd (eq_text _ _) ?_
    rw [count_some]
    decreasing_trivial
    refine gd (at_0 _ _) ?_
    decreasing_trivial
    refine gd (eq_text _ _) ?_
    rw [show decide (tl ("count" : Str) = tl ("count" : Str)) = true by decide +kernel]
    decreasing_trivial
    refine gd_mono (figures_ok h) fun r hr => ?_
    subst hr
    have e : numD y = inW "count" y := by
      unfold inW
      rw [if_neg (by rw [count_pick]; decide), if_neg (by rw [count_some]; decide)]
    decreasing_trivial
    exact tail _ _ (by rw [e]; exact fv _) e rfl
end K04

namespace K04
open PySem PySem.Spec PyProof.Rows L2 Dl TL
local macro_rules | `(tactic| decreasing_trivial_pre_omega) => `(tactic| (first | with_reducible refine s_seq ?_ | with_reducible refine s_if ?_ | with_reducible refine s_set ?_ | with_reducible refine s_setIx ?_ | with_reducible refine s_ret ?_ | with_reducible refine s_nil ?_ | with_reducible refine s_own ?_ | with_reducible refine s_par ?_ | with_reducible refine t_tst ?_ | with_reducible refine t_and ?_ | with_reducible refine t_or ?_ | with_reducible refine t_not ?_ | with_reducible refine t_yes ?_ | with_reducible refine e_op ?_ | with_reducible refine e_un ?_ | with_reducible refine e_chain ?_ | with_reducible refine e_b ?_ | with_reducible refine e_c ?_ | with_reducible refine e_l ?_ | with_reducible refine e_tup ?_ | with_reducible refine e_call ?_ | with_reducible refine e_and ?_ | with_reducible refine e_or ?_ | with_reducible refine e_not ?_ | with_reducible refine e_if ?_ | with_reducible refine e_sl ?_ | with_reducible refine o_n ?_ | with_reducible refine o_s ?_ | with_reducible refine a_nil ?_ | with_reducible refine a_cons ?_ | with_reducible refine f_lst ?_ | with_reducible refine f_call ?_ | with_reducible refine f_itA ?_ | with_reducible refine f_r1 ?_ | with_reducible refine r_seq ?_ | with_reducible refine n_add ?_ | with_reducible refine n_sub ?_ | with_reducible refine n_gt ?_ | with_reducible refine n_ge ?_ | with_reducible refine n_lt ?_ | with_reducible refine n_le ?_ | with_reducible refine e_var (by with_unfolding_all rfl) ?_ | with_reducible refine e_ixc (by with_unfolding_all rfl) ?_ | with_reducible refine e_callM (by with_unfolding_all rfl) ?_ | with_reducible refine s_frz (by with_unfolding_all rfl) ?_ | with_reducible refine s_app (by with_unfolding_all rfl) ?_ | with_reducible refine few_and (by first | decide | (simp only [List.length_cons, List.length_nil, Nat.reduceAdd, Nat.reduceLeDiff])) ?_ | refine Or.inl ⟨by first | with_reducible rfl | with_reducible exact Bool.not_false, ?_⟩ | refine Or.inr ⟨by first | with_reducible rfl | with_reducible exact Bool.not_true, ?_⟩ | refine Exists.intro _ (Exists.intro _ ⟨rfl, rfl, gd rfl ?_⟩) | refine Exists.intro _ ⟨rfl, ?_⟩))
local macro_rules | `(tactic| decreasing_trivial) => `(tactic| repeat decreasing_trivial_pre_omega)
/-! ### a value and its text -/
theorem strsOf_map (zs : List Str) : strsOf (zs.map .str) = zs := by unfold strsOf; rw [strs_map]; rfl
theorem inW_pick (y : Str) : inW "pick" y = .str y := by unfold inW; rw [if_pos tl_pick]
theorem inW_some (y : Str) : inW "some" y = if decide (tl y = tl ("-" : Str)) = true then .tuple [] else .tuple ((PL y).map .str) := by
  unfold inW
  rw [if_neg (by rw [some_pick]; decide), if_pos some_some]
theorem inW_count (y : Str) : inW "count" y = numD y := by
  unfold inW
  rw [if_neg (by rw [count_pick]; decide), if_neg (by rw [count_some]; decide)]
theorem text_back {kd : PyData} {y : Str} (kb : kindB kd = true) (hv : valB kd (inV kd y) = true) : textV (inV kd y) = .str y := by
  rcases kind_form' kb with ⟨w, ns, rfl | rfl, ne, l6, nm, nd, rfl⟩ | ⟨a, b, ab, bm, rfl⟩
  · show textV (inW "pick" y) = _
    rw [inW_pick]; rfl
  · show textV (inW "some" y) = _
    rw [inW_some]
    by_cases c : tl y = tl ("-" : Str)
    · rw [if_pos (decide_eq_true c), ext_tl c]; rfl
    · rw [if_neg (by simpa using c)]
      show (if ((PL y).map PyData.str).isEmpty = true then PyData.str "-" else .str (Txt.join "+" (strsOf ((PL y).map .str)))) = _
      rw [if_neg (by rw [List.isEmpty_iff, List.map_eq_nil_iff]; exact W_neP y), strsOf_map]
      exact congrArg _ (W_backP y)
  · have hv' : valB (.tuple [.str "count", .int a, .int b]) (inW "count" y) = true := hv
    show textV (inW "count" y) = _
    rw [inW_count] at hv' ⊢
    unfold numD at hv' ⊢
    split at hv'
    · rename_i c
      rw [if_pos c]
      exact congrArg _ (num_text c)
    · cases hv'
theorem val_form {kd d : PyData} (kb : kindB kd = true) (hv : valB kd d = true) : (∃ (ns : List Str) (x : Str), kd = .tuple [.str "pick", .tuple (ns.map .str)] ∧ (∀ n ∈ ns, nameB (.str n) = true) ∧ x ∈ ns ∧ d = .str x) ∨
    (∃ ns zs : List Str, kd = .tuple [.str "some", .tuple (ns.map .str)] ∧ (∀ n ∈ ns, nameB (.str n) = true) ∧ (∀ z ∈ zs, z ∈ ns) ∧ zs.length ≤ 6 ∧ d = .tuple (zs.map .str)) ∨
    ∃ a b n : Nat, kd = .tuple [.str "count", .int a, .int b] ∧ n ≤ 1000000 ∧ d = .int n := by
  rcases kind_form' kb with ⟨w, ns, rfl | rfl, ne, l6, nm, nd, rfl⟩ | ⟨a, b, ab, bm, rfl⟩
  · rw [valB_pick] at hv
    cases d with
    | str x => exact .inl ⟨ns, x, rfl, nm, by simpa [memB] using hv, rfl⟩
    | _ => cases hv
  · rw [valB_some] at hv
    cases d with
    | tuple ds =>
      have form := eqTs_form (show eqTs ds (pickS ns ds) = true from hv)
      exact .inr (.inl ⟨ns, _, rfl, nm, fun z h => (List.mem_filter.mp h).1, Nat.le_trans (List.length_filter_le _ _) l6, congrArg _ form⟩)
    | _ => cases hv
  · cases d with
    | int i =>
      have hb : (decide ((a : Int) ≤ i) && decide (i ≤ (b : Int))) = true := hv
      rw [Bool.and_eq_true, decide_eq_true_eq, decide_eq_true_eq] at hb
      exact .inr (.inr ⟨a, b, i.toNat, rfl, by omega, by congr 1; omega⟩)
    | _ => cases hv
theorem cnt_no {l : List Nat} {c : Nat} (h : c ∉ l) : l.count c = 0 := List.count_eq_zero.mpr h
theorem name_tx {x : Str} (h : nameB (.str x) = true) : TX 54 0 x ∧ pc x = 0 := by
  obtain ⟨⟨_, l⟩, s⟩ := name_signs h
  refine ⟨⟨by omega, fun c hc => by have := s c hc; omega, ?_⟩, ?_⟩
  · rw [cnt_no fun hc => by have := s _ hc; omega]; exact Nat.le_refl _
  · exact cnt_no fun hc => by have := s _ hc; omega
theorem PL_join {zs : List Str} (ne : zs ≠ []) (nm : ∀ z ∈ zs, nameB (.str z) = true) : PL (Txt.join "+" zs) = zs :=
  split_join (y := spP) (s := 43) (S := []) sp_tlP (by decide +kernel) ne fun z hz hc => by
    have := (name_signs (nm z hz)).2 _ hc
    omega
theorem join_tl (zs : List Str) : tl (Txt.join "+" zs) = joinL [43] (zs.map tl) := by rw [join_eq, tl_join, plus_tl]
theorem in_back {kd d : PyData} (kb : kindB kd = true) (hv : valB kd d = true) : ∃ y, textV d = .str y ∧ inV kd y = d ∧ TX 54 0 y ∧ pc y ≤ 5 := by
  rcases val_form kb hv with ⟨ns, x, rfl, nm, hx, rfl⟩ | ⟨ns, zs, rfl, nm, sub, l6, rfl⟩ | ⟨a, b, n, rfl, hn, rfl⟩
  · obtain ⟨t, p⟩ := name_tx (nm x hx)
    exact ⟨x, rfl, inW_pick x, t, by omega⟩
  · by_cases e : zs = []
    · subst e
      refine ⟨"-", rfl, ?_, tx_lit _ _ (by decide +kernel), by decide +kernel⟩
      show inW "some" "-" = _
      rw [inW_some, if_pos (decide_eq_true rfl)]
      rfl
    · have nz : ∀ z ∈ zs, nameB (.str z) = true := fun z h => nm z (sub z h)
      have mem : ∀ c ∈ tl (Txt.join "+" zs), c = 43 ∨ (97 ≤ c ∧ c ≤ 122) := fun c hc => by
        rw [join_tl] at hc
        rcases joinS_mem _ _ hc with z | ⟨p, hp, z⟩
        · rw [List.mem_singleton] at z; exact .inl z
        · obtain ⟨n, hn, rfl⟩ := List.mem_map.mp hp
          exact .inr ((name_signs (nz n hn)).2 c z)
      have pl := PL_join e nz
      refine ⟨Txt.join "+" zs, ?_, ?_, ⟨?_, fun c hc => ?_, ?_⟩, ?_⟩
      · show (if (zs.map PyData.str).isEmpty = true then PyData.str "-" else .str (Txt.join "+" (strsOf (zs.map .str)))) = _
        rw [if_neg (by rw [List.isEmpty_iff, List.map_eq_nil_iff]; exact e), strsOf_map]
      · show inW "some" _ = _
        rw [inW_some, if_neg, pl]
        rw [decide_eq_true_eq, dash_tl]
        intro z
        have := mem 45 (by rw [z]; exact List.mem_cons_self)
        omega
      · rw [join_tl]
        have := joinS_len [43] (zs.map tl)
        have sm := sum_few (m := 8) (ps := zs.map tl) fun p hp => by
          obtain ⟨n, hn, rfl⟩ := List.mem_map.mp hp
          exact (name_signs (nz n hn)).1.2
        have l1 : [43].length = 1 := rfl
        rw [List.length_map] at this sm
        rw [l1] at this
        omega
      · have := mem c hc; omega
      · rw [cnt_no fun hc => by have := mem _ hc; omega]; exact Nat.le_refl _
      · have := PL_len (Txt.join "+" zs)
        rw [pl] at this
        omega
  · have nb := num_back hn
    refine ⟨Str.ofString (toString ((n : Nat) : Int)), rfl, ?_, ⟨?_, fun c hc => ?_, ?_⟩, ?_⟩
    · show inW "count" _ = _
      rw [inW_count]; exact nb.1
    · rw [tl_num]
      have := numL_len (n := n) (k := 7) (by decide) (by omega)
      omega
    · rw [tl_num] at hc
      have := numL_digits n c hc
      omega
    · rw [tl_num, cnt_no fun hc => by have := numL_digits n _ hc; omega]; exact Nat.le_refl _
    · unfold pc
      rw [tl_num, cnt_no fun hc => by have := numL_digits n _ hc; omega]; exact Nat.zero_le _
theorem text_inj {kd d e : PyData} (kb : kindB kd = true) (h : valB kd d = true) (g : valB kd e = true) (t : textV d = textV e) : d = e := by
  obtain ⟨y, a, b, _⟩ := in_back kb h
  obtain ⟨z, c, f, _⟩ := in_back kb g
  rw [a, c] at t
  injection t with t
  rw [← b, ← f, t]
theorem written_ok {kd d : PyData} (kb : kindB kd = true) (hv : valB kd d = true) : Gd (m__law_written [d]) fun r => r = textV d := by
  unfold m__law_written
  refine m_fnP rfl ?_
  unfold b__law_written
  rcases val_form kb hv with ⟨ns, x, rfl, nm, hx, rfl⟩ | ⟨ns, zs, rfl, nm, sub, l6, rfl⟩ | ⟨a, b, n, rfl, hn, rfl⟩
  · decreasing_trivial
    refine gd (a := .bool false) rfl ?_
    decreasing_trivial
    refine gd (a := .str x) rfl ?_
    decreasing_trivial
    rfl
  · decreasing_trivial
    refine gd (a := .bool true) rfl ?_
    decreasing_trivial
    cases zs with
    | nil =>
      refine gd (a := .bool false) rfl ?_
      decreasing_trivial
      rfl
    | cons z r =>
      refine gd (ne_empty (k := 1) (show Pl 1 (.tuple ((z :: r).map .str)) from ⟨by rw [List.length_map]; exact l6, fun d hd => by obtain ⟨n, hn, rfl⟩ := List.mem_map.mp hd; exact pl_name 0 (nm n (sub n hn))⟩) (by decide)) ?_
      decreasing_trivial
      refine .inl ⟨rfl, ?_⟩
      decreasing_trivial
      refine gd (show gJoin (.str "+") (.tuple ((z :: r).map .str)) = some (.str (Txt.join "+" (z :: r))) from join_plus nm sub (by omega)) ?_
      decreasing_trivial
      show _ = PyData.str (Txt.join "+" (strsOf ((z :: r).map .str)))
      rw [strsOf_map]
  · decreasing_trivial
    refine gd (a := .bool false) rfl ?_
    decreasing_trivial
    refine gd (a := .str (toString (n : Int))) ?_ ?_
    · exact if_pos (Nat.lt_of_lt_of_le (lg (k := 30) (by decide) (by omega) (by omega)) (by decide))
    · decreasing_trivial
      rfl
end K04

namespace K04
open PySem PySem.Spec PyProof.Rows L2 Dl TL
local macro_rules | `(tactic| decreasing_trivial_pre_omega) => `(tactic| (first | with_reducible refine s_seq ?_ | with_reducible refine s_if ?_ | with_reducible refine s_set ?_ | with_reducible refine s_setIx ?_ | with_reducible refine s_ret ?_ | with_reducible refine s_nil ?_ | with_reducible refine s_own ?_ | with_reducible refine s_par ?_ | with_reducible refine t_tst ?_ | with_reducible refine t_and ?_ | with_reducible refine t_or ?_ | with_reducible refine t_not ?_ | with_reducible refine t_yes ?_ | with_reducible refine e_op ?_ | with_reducible refine e_un ?_ | with_reducible refine e_chain ?_ | with_reducible refine e_b ?_ | with_reducible refine e_c ?_ | with_reducible refine e_l ?_ | with_reducible refine e_tup ?_ | with_reducible refine e_call ?_ | with_reducible refine e_and ?_ | with_reducible refine e_or ?_ | with_reducible refine e_not ?_ | with_reducible refine e_if ?_ | with_reducible refine e_sl ?_ | with_reducible refine o_n ?_ | with_reducible refine o_s ?_ | with_reducible refine a_nil ?_ | with_reducible refine a_cons ?_ | with_reducible refine f_lst ?_ | with_reducible refine f_call ?_ | with_reducible refine f_itA ?_ | with_reducible refine f_r1 ?_ | with_reducible refine r_seq ?_ | with_reducible refine n_add ?_ | with_reducible refine n_sub ?_ | with_reducible refine n_gt ?_ | with_reducible refine n_ge ?_ | with_reducible refine n_lt ?_ | with_reducible refine n_le ?_ | with_reducible refine e_var (by with_unfolding_all rfl) ?_ | with_reducible refine e_ixc (by with_unfolding_all rfl) ?_ | with_reducible refine e_callM (by with_unfolding_all rfl) ?_ | with_reducible refine s_frz (by with_unfolding_all rfl) ?_ | with_reducible refine s_app (by with_unfolding_all rfl) ?_ | with_reducible refine few_and (by first | decide | (simp only [List.length_cons, List.length_nil, Nat.reduceAdd, Nat.reduceLeDiff])) ?_ | refine Or.inl ⟨by first | with_reducible rfl | with_reducible exact Bool.not_false, ?_⟩ | refine Or.inr ⟨by first | with_reducible rfl | with_reducible exact Bool.not_true, ?_⟩ | refine Exists.intro _ (Exists.intro _ ⟨rfl, rfl, gd rfl ?_⟩) | refine Exists.intro _ ⟨rfl, ?_⟩))
local macro_rules | `(tactic| decreasing_trivial) => `(tactic| repeat decreasing_trivial_pre_omega)
/-! ### all values of a kind -/
theorem map_str_inj : ∀ {xs ys : List Str}, xs.map PyData.str = ys.map PyData.str → xs = ys
  | [], [], _ => rfl
  | [], _ :: _, h => by simp at h
  | _ :: _, [], h => by simp at h
  | x :: r, y :: s, h => by
    rw [List.map_cons, List.map_cons] at h
    injection h with h1 h2
    injection h1 with h1
    rw [h1, map_str_inj h2]
theorem nodup_map {α β : Type} {f : α → β} (inj : ∀ a b, f a = f b → a = b) {l : List α} (h : l.Nodup) : (l.map f).Nodup := by
  unfold List.Nodup at h ⊢
  rw [List.pairwise_map]
  exact h.imp fun ne e => ne (inj _ _ e)
/-- the values that there are -/
structure VS (kd : PyData) (ds : List PyData) : Prop where
  val : ∀ d ∈ ds, valB kd d = true
  nd : ds.Nodup
  pos : 1 ≤ ds.length
  few : ds.length ≤ 64
def tupD (z : List Str) : PyData := .tuple (z.map .str)
theorem tupD_inj (a b : List Str) (h : tupD a = tupD b) : a = b := by
  unfold tupD at h
  injection h with h
  exact map_str_inj h
structure Sub (pre : List Str) (f : List (List Str)) : Prop where
  sub : ∀ z ∈ f, z.Sublist pre
  nd : f.Nodup
  len : f.length = 2 ^ pre.length
theorem Sub.nil : Sub [] [[]] := ⟨fun z hz => by rw [List.mem_singleton] at hz; rw [hz]; exact List.Sublist.refl _, by simp, rfl⟩
theorem Sub.snoc {pre : List Str} {f : List (List Str)} {n : Str} (h : Sub pre f) (hn : n ∉ pre) : Sub (pre ++ [n]) (f ++ f.map (· ++ [n])) := by
  refine ⟨fun z hz => ?_, ?_, ?_⟩
  · rcases List.mem_append.mp hz with q | q
    · exact (h.sub z q).trans (List.sublist_append_left _ _)
    · obtain ⟨y, hy, rfl⟩ := List.mem_map.mp q
      exact (h.sub y hy).append (List.Sublist.refl _)
  · refine List.nodup_append.mpr ⟨h.nd, nodup_map (fun a b e => List.append_cancel_right e) h.nd, fun a ha b hb e => ?_⟩
    obtain ⟨y, hy, rfl⟩ := List.mem_map.mp hb
    subst e
    exact hn ((h.sub _ ha).subset (List.mem_append_right _ List.mem_cons_self))
  · rw [List.length_append, List.length_map, h.len, List.length_append, List.length_singleton, Nat.pow_succ]
    omega
theorem filter_sub {ns : List Str} (nd : ns.Nodup) {z : List Str} (h : z.Sublist ns) : ns.filter (fun n => decide (n ∈ z)) = z := by
  induction h with
  | slnil => rfl
  | cons a s ih =>
    rename_i z1 l1
    have nd' := List.nodup_cons.mp nd
    rw [List.filter_cons, if_neg (by rw [decide_eq_true_eq]; exact fun m => nd'.1 (s.subset m))]
    exact ih nd'.2
  | cons_cons a s ih =>
    rename_i z1 l1
    have nd' := List.nodup_cons.mp nd
    rw [List.filter_cons, if_pos (by rw [decide_eq_true_eq]; exact List.mem_cons_self)]
    congr 1
    refine Eq.trans (List.filter_congr fun n hn => ?_) (ih nd'.2)
    refine decide_eq_decide.mpr ⟨fun m => ?_, fun m => List.mem_cons_of_mem _ m⟩
    rcases List.mem_cons.mp m with e | e
    · subst e; exact absurd hn nd'.1
    · exact e
theorem sub_val {ns : List Str} (nd : ns.Nodup) {z : List Str} (h : z.Sublist ns) : valB (.tuple [.str "some", .tuple (ns.map .str)]) (tupD z) = true := by
  rw [valB_some]
  show eqTs (z.map .str) (pickS ns (z.map .str)) = true
  rw [pickS_strs, eqTs_strs, filter_sub nd h, decide_eq_true rfl]
theorem insU_len (x : Int) : ∀ l : List Int, (insU x l).length ≤ l.length + 1
  | [] => Nat.le_refl _
  | y :: r => by
    unfold insU
    split
    · simp
    · split
      · simp
      · have := insU_len x r
        simp only [List.length_cons]
        omega
theorem upS_len : ∀ l : List Int, (upS l).length ≤ l.length
  | [] => Nat.le_refl _
  | x :: r => by
    have a := insU_len x (upS r)
    have b := upS_len r
    rw [upS, List.length_cons]
    omega
theorem all_values_ok {n : Nat} {pd : List PyData} {kd : PyData} (kb : kindB kd = true) (h : Pot n pd) (hn : n < 500000) : Gd (m__law_all_values pd [kd]) fun q => ∃ ds, q.1 = .list ds ∧ VS kd ds ∧ Pot (n + 1) q.2 := by
  unfold m__law_all_values
  refine m_fnM rfl ?_
  unfold b__law_all_values
  rcases kind_form' kb with ⟨w, ns, rfl | rfl, ne, l6, nm, nd, rfl⟩ | ⟨a, b, ab, bm, rfl⟩
  · decreasing_trivial
    refine gd (at_0 _ _) ?_
    decreasing_trivial
    refine gd (eq_text _ _) ?_
    rw [tl_pick]
    decreasing_trivial
    refine gd (at_1 _ _ _) ?_
    decreasing_trivial
    refine gd (a := .list (ns.map .str)) rfl ?_
    decreasing_trivial
    refine ⟨⟨fun d hd => ?_, nodup_map (fun a b e => by injection e) nd, ?_, ?_⟩, (show Pot _ pd from h).mono (by omega)⟩
    · obtain ⟨x, hx, rfl⟩ := List.mem_map.mp hd
      rw [valB_pick]
      exact decide_eq_true hx
    · rw [List.length_map]; exact List.length_pos_iff.mpr ne
    · rw [List.length_map]; omega
  · decreasing_trivial
    refine gd (at_0 _ _) ?_
    decreasing_trivial
    refine gd (eq_text _ _) ?_
    rw [some_pick]
    decreasing_trivial
    refine gd (at_0 _ _) ?_
    decreasing_trivial
    refine gd (eq_text _ _) ?_
    rw [some_some]
    decreasing_trivial
    refine s_for (I := fun r s => ∃ pre rest f v3, ns = pre ++ rest ∧ r = rest.map PyData.str ∧ Sub pre f ∧ s = [.pot 0 pd, .dat (.tuple [.str "some", .tuple (ns.map .str)]), .dat (.list (f.map tupD)), v3, .no, .no, .no]) ?_ (fun d r s hI => ?_) (fun s hI => ?_)
    · decreasing_trivial
      refine gd (at_1 _ _ _) ?_
      exact .inl ⟨_, .inr rfl, [], ns, [[]], _, rfl, rfl, Sub.nil, rfl⟩
    · obtain ⟨pre, rest, f, v3, e, er, sf, rfl⟩ := hI
      cases rest with
      | nil => cases er
      | cons n rest =>
        rw [List.map_cons] at er
        injection er with e1 e2
        subst e1 e2
        have nn : n ∉ pre := fun m => by
          rw [e] at nd
          exact (List.nodup_append.mp nd).2.2 n m n List.mem_cons_self rfl
        have lf : f.length ≤ 32 := by
          rw [sf.len]
          have : pre.length ≤ 5 := by
            have := congrArg List.length e
            rw [List.length_append, List.length_cons] at this
            omega
          exact Nat.pow_le_pow_right (by decide) this
        refine ⟨_, rfl, ?_⟩
        decreasing_trivial
        refine f_lc_pure (fun _ => true) (fun d => match d with | .tuple zs => .tuple (zs ++ [.str n]) | _ => .none) ?_
        decreasing_trivial
        refine .inl ⟨_, .inl rfl, rfl, ?_, fun z hz => ⟨?_, fun _ => ?_⟩, ?_⟩
        · rw [List.length_map]
          exact Nat.lt_of_le_of_lt lf (by decide)
        · decreasing_trivial
          exact ⟨rfl, rfl⟩
        · obtain ⟨x, hx, rfl⟩ := List.mem_map.mp hz
          have lx : x.length ≤ 6 := by
            have := (sf.sub x hx).length_le
            have e' := congrArg List.length e
            rw [List.length_append] at e'
            omega
          decreasing_trivial
          show Gd (gAdd (.tuple (x.map .str)) (.tuple [.str n])) _
          refine cat_tup (by rw [List.length_map, List.length_singleton]; omega) ?_
          exact ⟨rfl, rfl⟩
        · rw [List.filter_eq_self.mpr (fun _ _ => rfl)]
          have em : (f.map tupD).map (fun d => match d with | .tuple zs => PyData.tuple (zs ++ [.str n]) | _ => .none) = (f.map (· ++ [n])).map tupD := by
            rw [List.map_map, List.map_map]
            refine List.map_congr_left fun z _ => ?_
            show PyData.tuple (z.map .str ++ [.str n]) = PyData.tuple ((z ++ [n]).map .str)
            rw [List.map_append]
            rfl
          rw [em]
          refine cat_list (by rw [List.length_map, List.length_map, List.length_map]; omega) ?_
          rw [← List.map_append]
          decreasing_trivial
          refine ⟨pre ++ [n], rest, _, _, ?_, rfl, sf.snoc nn, rfl⟩
          rw [e, List.append_assoc]
          rfl
    · obtain ⟨pre, rest, f, v3, e, er, sf, rfl⟩ := hI
      have r0 : rest = [] := List.map_eq_nil_iff.mp er.symm
      subst r0
      rw [List.append_nil] at e
      subst e
      decreasing_trivial
      refine ⟨⟨fun d hd => ?_, nodup_map tupD_inj sf.nd, ?_, ?_⟩, (show Pot _ pd from h).mono (by omega)⟩
      · obtain ⟨x, hx, rfl⟩ := List.mem_map.mp hd
        exact sub_val nd (sf.sub x hx)
      · rw [List.length_map, sf.len]; exact Nat.one_le_two_pow
      · rw [List.length_map, sf.len]
        exact Nat.pow_le_pow_right (by decide) l6
  · decreasing_trivial
    refine gd (at_0 _ _) ?_
    decreasing_trivial
    refine gd (eq_text _ _) ?_
    rw [count_pick]
    decreasing_trivial
    refine gd (at_0 _ _) ?_
    decreasing_trivial
    refine gd (eq_text _ _) ?_
    rw [count_some]
    decreasing_trivial
    refine gd (at_1 _ _ _) ?_
    decreasing_trivial
    refine gd (at_1 _ _ _) ?_
    decreasing_trivial
    refine gd (at_2 _ _ _ _) ?_
    decreasing_trivial
    refine gd (at_2 _ _ _ _) ?_
    decreasing_trivial
    refine gd (at_1 _ _ _) ?_
    decreasing_trivial
    refine gd (at_2 _ _ _ _) ?_
    decreasing_trivial
    refine gd (at_1 _ _ _) ?_
    decreasing_trivial
    refine pot_at h (by omega) (by omega) (by omega) fun r p h0 h1 hp => ?_
    decreasing_trivial
    refine f_lc_pure (fun d => match d with | .int i => (decide ((a : Int) ≤ i) && decide (i ≤ (b : Int))) | _ => false) id ?_
    decreasing_trivial
    have near : [PyData.int a, .int (a + 1), .int (b - 1), .int b, .int (a + r)] = [(a : Int), a + 1, b - 1, b, a + r].map .int := rfl
    refine .inl ⟨_, .inl rfl, rfl, by show 5 < sizeLine; decide, fun z hz => ⟨?_, fun _ => ?_⟩, ?_⟩
    · rw [near] at hz
      obtain ⟨i, _, rfl⟩ := List.mem_map.mp hz
      decreasing_trivial
      refine gd (at_1 _ _ _) ?_
      decreasing_trivial
      by_cases l1 : (a : Int) ≤ i
      · refine .inl ⟨by rw [decide_eq_true l1], ?_⟩
        decreasing_trivial
        refine gd (at_2 _ _ _ _) ?_
        decreasing_trivial
        exact ⟨by show decide (i ≤ (b : Int)) = (decide ((a : Int) ≤ i) && decide (i ≤ (b : Int))); rw [decide_eq_true l1, Bool.true_and], rfl⟩
      · refine .inr ⟨by rw [decide_eq_false l1], ?_⟩
        decreasing_trivial
        exact ⟨by show false = (decide ((a : Int) ≤ i) && decide (i ≤ (b : Int))); rw [decide_eq_false l1, Bool.false_and], rfl⟩
    · decreasing_trivial
      exact ⟨rfl, rfl⟩
    · rw [near, List.map_id]
      have ef : ([(a : Int), a + 1, b - 1, b, a + r].map PyData.int).filter (fun d => match d with | .int i => (decide ((a : Int) ≤ i) && decide (i ≤ (b : Int))) | _ => false) = ([(a : Int), a + 1, b - 1, b, a + r].filter fun i => decide ((a : Int) ≤ i) && decide (i ≤ (b : Int))).map .int := by
        rw [List.filter_map]
        rfl
      rw [ef]
      generalize hl : ([(a : Int), a + 1, b - 1, b, a + r].filter fun i => decide ((a : Int) ≤ i) && decide (i ≤ (b : Int))) = l
      have ll : l.length ≤ 5 := by rw [← hl]; exact List.length_filter_le _ _
      have am : (a : Int) ∈ l := by
        rw [← hl]
        refine List.mem_filter.mpr ⟨List.mem_cons_self, ?_⟩
        rw [Bool.and_eq_true, decide_eq_true_eq, decide_eq_true_eq]
        omega
      have vl : ∀ i ∈ l, valB (.tuple [.str "count", .int a, .int b]) (.int i) = true := fun i hi => by
        rw [← hl] at hi
        exact (List.mem_filter.mp hi).2
      decreasing_trivial
      refine gd (a := .list ((upS l).map .int)) ?_ ?_
      · show (intsOf (l.map .int)).bind _ = _
        rw [intsOf_of, Option.bind_some, if_pos (by omega)]
      · decreasing_trivial
        refine ⟨⟨fun d hd => ?_, nodup_map (fun a b e => by injection e) ((upS_up l).imp fun lt e => by omega), ?_, ?_⟩, hp⟩
        · obtain ⟨i, hi, rfl⟩ := List.mem_map.mp hd
          exact vl i (mem_upS.mp hi)
        · rw [List.length_map]
          exact List.length_pos_of_mem (mem_upS.mpr am)
        · rw [List.length_map]
          have := upS_len l
          omega
end K04

namespace Dl
open PySem PySem.Spec PyProof.Rows L2
theorem m_fnMT {N : List Str} {qn : Str} {n : Nat} {b : DS} {pd ds : List PyData} {q : PyData × List PyData → Prop} (l : ds.length + 1 = n)
    (h : Gs (b (startMT N qn pd ds)) (fun s => okTab s 1 qn = true ∧ ∃ pd', potOf s[0]? = some pd' ∧ q (.none, pd')) fun d s => okTab s 1 qn = true ∧ ∃ pd', potOf s[0]? = some pd' ∧ q (d, pd')) : Gd (fnMT N qn n b pd ds) q := by
  obtain ⟨⟨s1, e, ok, pd', e2, k⟩ | ⟨d, s1, e, ok, pd', e2, k⟩⟩ := h
  · exact ⟨_, by unfold fnMT; rw [if_pos l, e]; simp only [outMT, ok, if_true, e2, Option.map_some], k⟩
  · exact ⟨_, by unfold fnMT; rw [if_pos l, e]; simp only [outMT, ok, if_true, e2, Option.map_some], k⟩
theorem e_callMT {m : List PyData → List PyData → Option (PyData × List PyData)} {j i : Nat} {q : Str} {g : DA} {s : Sl} {Q : PyData → Sl → Prop} {p0 : List PyData} (c : contents s i = some p0) (h : Ge (g s) fun ds s1 => ∃ pd, contents s1 i = some pd ∧ okTab s1 j q = true ∧ Gd (m pd ds) fun r => Q r.1 (setC s1 i r.2)) : Ge (dCallMT j q m i g s) Q := by
  obtain ⟨ds, s1, e, pd, e2, ok, r, e3, k⟩ := h
  exact ⟨_, _, by unfold dCallMT; rw [c, Option.bind_some, e, Option.bind_some, e2, Option.bind_some, if_pos ok, e3]; rfl, k⟩
/-- no table of another place's name -/
def NT (j : Nat) (q : Str) (v : SV) : Prop := ∀ i z, v = .tab i z → i = j → z = q
theorem nt_dat {j : Nat} {q : Str} (d : PyData) : NT j q (.dat d) := fun _ _ h => by cases h
theorem nt_no {j : Nat} {q : Str} : NT j q .no := fun _ _ h => by cases h
theorem nt_own {j : Nat} {q : Str} (d : List PyData) : NT j q (.own d) := fun _ _ h => by cases h
theorem nt_pot {j i : Nat} {q : Str} (d : List PyData) : NT j q (.pot i d) := fun _ _ h => by cases h
theorem nt_me {j : Nat} {q : Str} : NT j q (.tab j q) := fun _ _ h _ => by cases h; rfl
theorem nt_oth {j i : Nat} {q z : Str} (h : i ≠ j) : NT j q (.tab i z) := fun _ _ e f => by cases e; exact absurd f h
theorem nt_nil {j : Nat} {q : Str} : ∀ v ∈ ([] : Sl), NT j q v := fun _ h => by cases h
theorem nt_cons {j : Nat} {q : Str} {v : SV} {s : Sl} (h : NT j q v) (r : ∀ v ∈ s, NT j q v) : ∀ u ∈ v :: s, NT j q u := fun u hu => by
  rcases List.mem_cons.mp hu with e | e
  · rw [e]; exact h
  · exact r u e
theorem ok_of {j : Nat} {q : Str} {s : Sl} (m : SV.tab j q ∈ s) (h : ∀ v ∈ s, NT j q v) : okTab s j q = true := by
  unfold okTab
  rw [Bool.and_eq_true]
  refine ⟨List.any_eq_true.mpr ⟨_, m, by simp⟩, List.all_eq_true.mpr fun v hv => ?_⟩
  have := h v hv
  cases v with
  | tab i z =>
    have := this i z rfl
    by_cases c : i = j
    · simp [this c]
    · simp [c]
  | _ => rfl
end Dl
namespace K04
open PySem PySem.Spec PyProof.Rows L2 Dl TL
local macro_rules | `(tactic| decreasing_trivial_pre_omega) => `(tactic| (first | with_reducible refine s_seq ?_ | with_reducible refine s_if ?_ | with_reducible refine s_set ?_ | with_reducible refine s_setIx ?_ | with_reducible refine s_ret ?_ | with_reducible refine s_nil ?_ | with_reducible refine s_own ?_ | with_reducible refine s_par ?_ | with_reducible refine t_tst ?_ | with_reducible refine t_and ?_ | with_reducible refine t_or ?_ | with_reducible refine t_not ?_ | with_reducible refine t_yes ?_ | with_reducible refine e_op ?_ | with_reducible refine e_un ?_ | with_reducible refine e_chain ?_ | with_reducible refine e_b ?_ | with_reducible refine e_c ?_ | with_reducible refine e_l ?_ | with_reducible refine e_tup ?_ | with_reducible refine e_call ?_ | with_reducible refine e_and ?_ | with_reducible refine e_or ?_ | with_reducible refine e_not ?_ | with_reducible refine e_if ?_ | with_reducible refine e_sl ?_ | with_reducible refine o_n ?_ | with_reducible refine o_s ?_ | with_reducible refine a_nil ?_ | with_reducible refine a_cons ?_ | with_reducible refine f_lst ?_ | with_reducible refine f_call ?_ | with_reducible refine f_itA ?_ | with_reducible refine f_r1 ?_ | with_reducible refine r_seq ?_ | with_reducible refine n_add ?_ | with_reducible refine n_sub ?_ | with_reducible refine n_gt ?_ | with_reducible refine n_ge ?_ | with_reducible refine n_lt ?_ | with_reducible refine n_le ?_ | with_reducible refine e_var (by with_unfolding_all rfl) ?_ | with_reducible refine e_ixc (by with_unfolding_all rfl) ?_ | with_reducible refine e_callM (by with_unfolding_all rfl) ?_ | with_reducible refine s_frz (by with_unfolding_all rfl) ?_ | with_reducible refine s_app (by with_unfolding_all rfl) ?_ | with_reducible refine few_and (by first | decide | (simp only [List.length_cons, List.length_nil, Nat.reduceAdd, Nat.reduceLeDiff])) ?_ | refine Or.inl ⟨by first | with_reducible rfl | with_reducible exact Bool.not_false, ?_⟩ | refine Or.inr ⟨by first | with_reducible rfl | with_reducible exact Bool.not_true, ?_⟩ | refine Exists.intro _ (Exists.intro _ ⟨rfl, rfl, gd rfl ?_⟩) | refine Exists.intro _ ⟨rfl, ?_⟩))
local macro_rules | `(tactic| decreasing_trivial) => `(tactic| repeat decreasing_trivial_pre_omega)
/-! ### texts that are asked -/
theorem word_kind : w__law_word (some "NoKind") = some "kind" := by decide +kernel
theorem word_value : w__law_word (some "NoValue") = some "value" := by decide +kernel
/-- a text of at most n signs, p plus signs -/
structure TP (n p : Nat) (x : Str) : Prop where
  len : (tl x).length ≤ n
  sg : ∀ c ∈ tl x, c < 200
  pl : pc x ≤ p
theorem TP.cat {n p m r : Nat} {x y : Str} (h : TP n p x) (g : TP m r y) : TP (n + m) (p + r) (x ++ y) := by
  have h2 := h.pl
  have g2 := g.pl
  unfold pc at h2 g2
  refine ⟨?_, fun c hc => ?_, ?_⟩
  · rw [tl_append, List.length_append]; have := h.len; have := g.len; omega
  · rw [tl_append] at hc
    rcases List.mem_append.mp hc with z | z
    · exact h.sg c z
    · exact g.sg c z
  · unfold pc
    rw [tl_append, List.count_append]
    omega
theorem tp_lit {x : Str} (n p : Nat) (h : (decide ((tl x).length ≤ n) && ((tl x).all (fun c => decide (c < 200)) && decide ((tl x).count 43 ≤ p))) = true) : TP n p x := by
  simp only [Bool.and_eq_true, decide_eq_true_eq, List.all_eq_true] at h
  exact ⟨h.1, h.2.1, h.2.2⟩
theorem TP.tx {n p b : Nat} {x : Str} (h : TX n b x) (g : pc x ≤ p) : TP n p x := ⟨h.len, h.sg, g⟩
def OT (d : PyData) : Prop := ∃ y, d = .str y ∧ TP 2000 19 y
theorem OT.of {n p : Nat} {x : Str} (h : TP n p x) (hn : n ≤ 2000) (hp : p ≤ 19) : OT (.str x) := ⟨x, rfl, Nat.le_trans h.len hn, h.sg, Nat.le_trans h.pl hp⟩
theorem TP.fit {n p : Nat} {x : Str} (h : TP n p x) (hn : n ≤ 2000) (k : Nat) : Fit k (.str x) := fit_str k ⟨by rw [len_tl]; have := h.len; omega, h.sg⟩
theorem cnt_join : ∀ {ps : List (List Nat)}, (∀ p ∈ ps, 43 ∉ p) → (joinL [43] ps).count 43 ≤ ps.length
  | [], _ => by show ([] : List Nat).count 43 ≤ 0; simp
  | [p], h => by
    show p.count 43 ≤ 1
    rw [cnt_no (h p List.mem_cons_self)]
    exact Nat.zero_le _
  | p :: q :: r, h => by
    have ih := cnt_join (ps := q :: r) fun z hz => h z (List.mem_cons_of_mem _ hz)
    show (p ++ ([43] ++ joinL [43] (q :: r))).count 43 ≤ _
    have : [43].count 43 = 1 := by decide
    rw [List.count_append, List.count_append, this, cnt_no (h p List.mem_cons_self), List.length_cons]
    omega
/-- parts of a text -/
structure Pt (z : Str) : Prop where
  len : (tl z).length ≤ 54
  sg : ∀ c ∈ tl z, c < 200
  np : 43 ∉ tl z
theorem pt_name {z : Str} (h : nameB (.str z) = true) : Pt z := by
  obtain ⟨⟨_, l⟩, s⟩ := name_signs h
  exact ⟨by omega, fun c hc => by have := s c hc; omega, fun hc => by have := s _ hc; omega⟩
theorem pt_parts {y : Str} (h : TX 54 0 y) : ∀ z ∈ PL y, Pt z := fun z hz => by
  obtain ⟨p1, p2⟩ := spl_partsP (tl y) [] (by simp)
  rw [← W_tlP] at p1 p2
  have hm : tl z ∈ (PL y).map tl := List.mem_map_of_mem hz
  have a := sum_ge hm
  have l := h.len
  simp only [List.length_nil] at p2
  exact ⟨by omega, fun c hc => h.sg c (((p1 _ hm).2 c hc).elim (fun z => by cases z) id), (p1 _ hm).1⟩
theorem join_ot {zs : List Str} (few : zs.length ≤ 12) (h : ∀ z ∈ zs, Pt z) : ∃ y, joinD "+" (zs.map .str) = some (.str y) ∧ OT (.str y) := by
  refine ⟨Txt.join "+" zs, ?_, ?_⟩
  · unfold joinD
    rw [textsD_of, Option.bind_some, if_pos]
    have sm : (zs.map (·.length)).sum ≤ 54 * zs.length := by
      clear few
      induction zs with
      | nil => exact Nat.le_refl _
      | cons z r ih =>
        have a := (h z List.mem_cons_self).len
        have b := ih fun y hy => h y (List.mem_cons_of_mem _ hy)
        rw [List.map_cons, List.sum_cons, List.length_cons, len_tl]
        omega
    have l : ("+" : Str).length = 1 := rfl
    rw [l]
    omega
  · have sm := sum_few (m := 54) (ps := zs.map tl) fun p hp => by
      obtain ⟨n, hn, rfl⟩ := List.mem_map.mp hp
      exact (h n hn).len
    have jl := joinS_len [43] (zs.map tl)
    have l1 : [43].length = 1 := rfl
    rw [List.length_map] at sm jl
    rw [l1] at jl
    refine ⟨_, rfl, ?_, fun c hc => ?_, ?_⟩
    · rw [join_tl]; omega
    · rw [join_tl] at hc
      rcases joinS_mem _ _ hc with z | ⟨p, hp, z⟩
      · rw [List.mem_singleton] at z; omega
      · obtain ⟨n, hn, rfl⟩ := List.mem_map.mp hp
        exact (h n hn).sg c z
    · unfold pc
      rw [join_tl]
      have := cnt_join (ps := zs.map tl) fun p hp => by
        obtain ⟨n, hn, rfl⟩ := List.mem_map.mp hp
        exact (h n hn).np
      rw [List.length_map] at this
      omega
theorem strs_in {ns : List Str} : ∀ {es : List PyData}, (∀ d ∈ es, d ∈ ns.map PyData.str) → ∃ zs : List Str, es = zs.map .str ∧ ∀ z ∈ zs, z ∈ ns
  | [], _ => ⟨[], rfl, fun _ h => by cases h⟩
  | d :: r, h => by
    obtain ⟨zs, rfl, hz⟩ := strs_in (es := r) fun e he => h e (List.mem_cons_of_mem _ he)
    obtain ⟨n, hn, rfl⟩ := List.mem_map.mp (h d List.mem_cons_self)
    refine ⟨n :: zs, rfl, fun z hz' => ?_⟩
    rcases List.mem_cons.mp hz' with e | e
    · rw [e]; exact hn
    · exact hz z e
theorem not_none {kd v : PyData} (kb : kindB kd = true) (hv : valB kd v = true) : isNoneD v = false := by
  cases v with
  | none => rw [val_none kb] at hv; cases hv
  | _ => rfl
theorem isN_of {v : PyData} {b : Bool} (h : isNoneD v = b) : gIsN v .none = some (.bool b) := by show some (PyData.bool (isNoneD v)) = _; rw [h]
theorem notN_of {v : PyData} {b : Bool} (h : isNoneD v = b) : gNotN v .none = some (.bool (!b)) := by show some (PyData.bool (!isNoneD v)) = _; rw [h]
abbrev qT : Str := qt__law_texts_right
theorem ok8 {p : List PyData} {a b c : PyData} {v4 v5 v6 : SV} (h4 : NT 1 qT v4) (h5 : NT 1 qT v5) (h6 : NT 1 qT v6) : okTab [.pot 0 p, .dat a, .dat b, .dat c, v4, v5, v6, .tab 1 qT] 1 qT = true :=
  ok_of (by simp) (nt_cons (nt_pot _) (nt_cons (nt_dat _) (nt_cons (nt_dat _) (nt_cons (nt_dat _) (nt_cons h4 (nt_cons h5 (nt_cons h6 (nt_cons nt_me nt_nil))))))))
def loopT : DS := (sSeq (sFor (itA (dOp gAdd (dVar 3) (dL (fLst (aCons (dC (.str "")) (aCons (dC (.str "-")) (aCons (dC (.str "+")) (aCons (dOp gAdd (dVar 2) (dC (.str "+"))) (aCons (dOp gAdd (dC (.str "+")) (dVar 2)) (aCons (dOp gAdd (dVar 2) (dC (.str " "))) (aCons (dOp gAdd (dVar 2) (dC (.str "\n"))) (aCons (dOp gAdd (dC (.str "0")) (dVar 2)) (aCons (dC (.str "-0")) (aCons (dOp gAdd (dOp gAdd (dVar 2) (dC (.str "+"))) (dVar 2)) aNil)))))))))))))) (tgN 5)
  (sSeq (sSet 6 (dCall m__law_due (aCons (dVar 1) (aCons (dVar 5) aNil))))
  (sSeq (sIf (dAndT (dTst (dOp gIsN (dVar 6) (dC .none))) (dTst (dOp gNe (dWord 1 qt__law_texts_right w__law_word m_read_value (aCons (dVar 1) (aCons (dVar 5) aNil))) (dC (.str "value")))))
  (sRet (dC (.bool false)))
  sNil)
  (sSeq (sIf (dAndT (dTst (dOp gNotN (dVar 6) (dC .none))) (dTst (dOp gNe (dB gRepr (aCons (dCall (okOf m_read_value) (aCons (dVar 1) (aCons (dVar 5) aNil))) aNil)) (dB gRepr (aCons (dVar 6) aNil)))))
  (sRet (dC (.bool false)))
  sNil)
  (sIf (dAndT (dTst (dOp gNotN (dVar 6) (dC .none))) (dTst (dOp gNe (dCall (okOf m_value_text) (aCons (dVar 1) (aCons (dVar 6) aNil))) (dVar 5))))
  (sRet (dC (.bool false)))
  sNil)))))
  (sRet (dC (.bool true))))
theorem loopT_ok {N : Nat} {kd : PyData} {y : Str} {p : List PyData} {xs : List PyData} {s : Sl} (hs : s = [.pot 0 p, .dat kd, .dat (.str y), .dat (.list xs), .no, .no, .no, .tab 1 qT]) (kb : kindB kd = true) (fk : Fit 2 kd) (hy : TX 54 0 y) (py : pc y ≤ 5) (hp : Pot N p) (hx : ∀ d ∈ xs, OT d) (lx : xs.length ≤ 100) :
    Gs (loopT s) (fun _ => False) fun d s => okTab s 1 qT = true ∧ ∃ p', potOf s[0]? = some p' ∧ d = .bool true ∧ Pot N p' := by
  subst hs
  unfold loopT
  have ty : TP 54 5 y := TP.tx hy py
  have ly : y.length ≤ 54 := by rw [len_tl]; exact hy.len
  have l1 : ("+" : Str).length = 1 := rfl
  have l2 : (" " : Str).length = 1 := rfl
  have l3 : ("\n" : Str).length = 1 := rfl
  have l4 : ("0" : Str).length = 1 := rfl
  have plus : TP 1 1 ("+" : Str) := tp_lit _ _ (by decide +kernel)
  have one : ∀ d, OT d → ∃ z, d = .str z ∧ Fit 1 (.str z) ∧ pc z ≤ 19 := fun d ⟨z, e, t⟩ => ⟨z, e, t.fit (Nat.le_refl _) 1, t.pl⟩
  refine s_seq ?_
  refine s_for (I := fun r s => (∀ d ∈ r, OT d) ∧ ∃ v5 v6, NT 1 qT v5 ∧ NT 1 qT v6 ∧ s = [.pot 0 p, .dat kd, .dat (.str y), .dat (.list xs), .no, v5, v6, .tab 1 qT]) ?_ (fun d r s hI => ?_) (fun s hI => ?_)
  · decreasing_trivial
    refine cat_str (by omega) ?_
    decreasing_trivial
    refine cat_str (by omega) ?_
    decreasing_trivial
    refine cat_str (by omega) ?_
    decreasing_trivial
    refine cat_str (by omega) ?_
    decreasing_trivial
    refine cat_str (by omega) ?_
    decreasing_trivial
    refine cat_str (by omega) ?_
    decreasing_trivial
    refine cat_str (by rw [len_cat]; omega) ?_
    decreasing_trivial
    refine cat_list (by show xs.length + 10 ≤ 1000; omega) ?_
    refine .inl ⟨_, .inl rfl, all_app hx ?_, _, _, nt_no, nt_no, rfl⟩
    refine all_cons (OT.of (tp_lit 1 1 (by decide +kernel)) (by decide) (by decide)) (all_cons (OT.of (tp_lit 1 1 (by decide +kernel)) (by decide) (by decide)) (all_cons (OT.of plus (by decide) (by decide)) ?_))
    refine all_cons (OT.of (ty.cat plus) (by decide) (by decide)) (all_cons (OT.of (plus.cat ty) (by decide) (by decide)) (all_cons (OT.of (ty.cat (tp_lit 1 1 (by decide +kernel))) (by decide) (by decide)) ?_))
    refine all_cons (OT.of (ty.cat (tp_lit 1 1 (by decide +kernel))) (by decide) (by decide)) (all_cons (OT.of ((tp_lit 1 1 (by decide +kernel)).cat ty) (by decide) (by decide)) (all_cons (OT.of (tp_lit 2 1 (by decide +kernel)) (by decide) (by decide)) ?_))
    exact all_cons (OT.of ((ty.cat plus).cat ty) (by decide) (by decide)) all_nil
  · obtain ⟨td, v5, v6, n5, n6, rfl⟩ := hI
    obtain ⟨z, rfl, fz, pz⟩ := one d (td d List.mem_cons_self)
    have td' : ∀ d ∈ r, OT d := fun e he => td e (List.mem_cons_of_mem _ he)
    refine ⟨_, rfl, ?_⟩
    decreasing_trivial
    refine gd_mono (due_ok kb fz pz) fun u hu => ?_
    subst hu
    have fv := inW_fit (w := "pick") fz pz
    have rd := read_value_ok fk fz pz
    cases vb : valB kd (inV kd z) with
    | false =>
      have ed : dueD kd z = .none := by unfold dueD; rw [vb]; rfl
      rw [ed]
      rw [rxR_bad (d := .str z) kb vb] at rd
      decreasing_trivial
      refine gd (a := .bool true) rfl ?_
      decreasing_trivial
      refine e_word (ok8 nt_no (nt_dat _) (nt_dat _)) ?_
      decreasing_trivial
      refine gd_mono rd fun u hu => ?_
      subst hu
      refine ⟨"value", word_value, ?_⟩
      decreasing_trivial
      refine gd (ne_text _) ?_
      decreasing_trivial
      refine gd (a := .bool false) rfl ?_
      decreasing_trivial
      refine gd (a := .bool false) rfl ?_
      decreasing_trivial
      exact ⟨td', _, _, nt_dat _, nt_dat _, rfl⟩
    | true =>
      have ed : dueD kd z = inV kd z := by unfold dueD; rw [vb]; rfl
      rw [ed]
      rw [rxR_ok (d := .str z) kb vb] at rd
      change Gd _ (fun r => r = Rx.ok (inV kd z)) at rd
      have nn := not_none kb vb
      have fi : Fit 1 (inV kd z) := by
        obtain ⟨w, r, rfl⟩ := kind_head kb
        exact inW_fit fz pz
      have vt : Gd (m_value_text [kd, inV kd z]) fun r => r = .ok (.str z) := gd_mono (value_text_ok fk fi) fun r hr => by
        rcases hr with ⟨a, _⟩ | ⟨_, a, _⟩ | ⟨_, _, a⟩
        · rw [kb] at a; cases a
        · rw [vb] at a; cases a
        · rw [a, text_back kb vb]
      generalize hv : inV kd z = v at *
      decreasing_trivial
      refine gd (isN_of nn) ?_
      decreasing_trivial
      refine gd (notN_of nn) ?_
      decreasing_trivial
      refine ok_gd rd ?_
      decreasing_trivial
      refine gd (repr_fit (fit_le fi (by decide))) ?_
      decreasing_trivial
      refine gd (repr_fit (fit_le fi (by decide))) ?_
      decreasing_trivial
      refine gd (ne_text _) ?_
      decreasing_trivial
      refine gd (notN_of nn) ?_
      decreasing_trivial
      refine ok_gd vt ?_
      decreasing_trivial
      refine gd (ne_text _) ?_
      decreasing_trivial
      exact ⟨td', _, _, nt_dat _, nt_dat _, rfl⟩
  · obtain ⟨_, v5, v6, n5, n6, rfl⟩ := hI
    decreasing_trivial
    exact ⟨ok8 nt_no n5 n6, p, rfl, rfl, hp⟩
end K04

namespace K04
open PySem PySem.Spec PyProof.Rows L2 Dl TL
local macro_rules | `(tactic| decreasing_trivial_pre_omega) => `(tactic| (first | with_reducible refine s_seq ?_ | with_reducible refine s_if ?_ | with_reducible refine s_set ?_ | with_reducible refine s_setIx ?_ | with_reducible refine s_ret ?_ | with_reducible refine s_nil ?_ | with_reducible refine s_own ?_ | with_reducible refine s_par ?_ | with_reducible refine t_tst ?_ | with_reducible refine t_and ?_ | with_reducible refine t_or ?_ | with_reducible refine t_not ?_ | with_reducible refine t_yes ?_ | with_reducible refine e_op ?_ | with_reducible refine e_un ?_ | with_reducible refine e_chain ?_ | with_reducible refine e_b ?_ | with_reducible refine e_c ?_ | with_reducible refine e_l ?_ | with_reducible refine e_tup ?_ | with_reducible refine e_call ?_ | with_reducible refine e_and ?_ | with_reducible refine e_or ?_ | with_reducible refine e_not ?_ | with_reducible refine e_if ?_ | with_reducible refine e_sl ?_ | with_reducible refine o_n ?_ | with_reducible refine o_s ?_ | with_reducible refine a_nil ?_ | with_reducible refine a_cons ?_ | with_reducible refine f_lst ?_ | with_reducible refine f_call ?_ | with_reducible refine f_itA ?_ | with_reducible refine f_r1 ?_ | with_reducible refine r_seq ?_ | with_reducible refine n_add ?_ | with_reducible refine n_sub ?_ | with_reducible refine n_gt ?_ | with_reducible refine n_ge ?_ | with_reducible refine n_lt ?_ | with_reducible refine n_le ?_ | with_reducible refine e_var (by with_unfolding_all rfl) ?_ | with_reducible refine e_ixc (by with_unfolding_all rfl) ?_ | with_reducible refine e_callM (by with_unfolding_all rfl) ?_ | with_reducible refine s_frz (by with_unfolding_all rfl) ?_ | with_reducible refine s_app (by with_unfolding_all rfl) ?_ | with_reducible refine few_and (by first | decide | (simp only [List.length_cons, List.length_nil, Nat.reduceAdd, Nat.reduceLeDiff])) ?_ | refine Or.inl ⟨by first | with_reducible rfl | with_reducible exact Bool.not_false, ?_⟩ | refine Or.inr ⟨by first | with_reducible rfl | with_reducible exact Bool.not_true, ?_⟩ | refine Exists.intro _ (Exists.intro _ ⟨rfl, rfl, gd rfl ?_⟩) | refine Exists.intro _ ⟨rfl, ?_⟩))
local macro_rules | `(tactic| decreasing_trivial) => `(tactic| repeat decreasing_trivial_pre_omega)
theorem texts_right_ok {n : Nat} {pd : List PyData} {kd : PyData} {y : Str} (kb : kindB kd = true) (fk : Fit 2 kd) (hy : TX 54 0 y) (py : pc y ≤ 5) (h : Pot n pd) (hn : n < 200000) : Gd (m__law_texts_right pd [kd, .str y]) fun q => q.1 = .bool true ∧ Pot (n + 60) q.2 := by
  unfold m__law_texts_right
  refine m_fnMT rfl ?_
  unfold b__law_texts_right
  refine s_seq ?_
  refine s_set ?_
  refine e_op ?_
  refine e_l ?_
  refine f_lc (I := fun r m s' => r.length + m.length = 6 ∧ (∀ d ∈ m, OT d) ∧ ∃ (p : List PyData) (v : SV), s' = [.pot 0 p, .dat kd, .dat (.str y), .no, v, .no, .no, .tab 1 qT] ∧ Pot (n + 10 * m.length) p) ?_ (fun d r m s' hI => ?_) (fun m s' hI => ?_)
  · decreasing_trivial
    exact ⟨by decide, by decide, rfl, by decide, rfl, all_nil, pd, _, rfl, h⟩
  · obtain ⟨lm, tm, p, v, rfl, hp⟩ := hI
    rw [List.length_cons] at lm
    refine t_yes ?_
    refine ⟨rfl, .inl ⟨rfl, ?_⟩⟩
    decreasing_trivial
    refine gd_mono (text_bent_ok hy (by decide) (by decide) (show Pot _ p from hp) (by omega)) fun q hq => ?_
    obtain ⟨d5, p6⟩ := q
    obtain ⟨z, e, tz, pz, hp6⟩ := hq
    have e' : d5 = .str z := e
    subst e'
    refine ⟨rfl, by rw [List.length_append, List.length_singleton]; omega, fun e he => ?_, p6, _, rfl, (show Pot _ p6 from hp6).mono (by rw [List.length_append, List.length_singleton]; omega)⟩
    rcases List.mem_append.mp he with z | z
    · exact tm e z
    · rw [List.mem_singleton] at z
      subst z
      exact OT.of (TP.tx tz pz) (by decide) (by omega)
  · obtain ⟨lm, tm, p, v, rfl, hp⟩ := hI
    rw [List.length_nil] at lm
    have hp' : Pot (n + 60) p := hp.mono (by omega)
    have fy : Fit 1 (.str y) := (TP.tx hy py).fit (by decide) 1
    obtain ⟨j1, e1, o1⟩ := join_ot (zs := (PL y).reverse) (by rw [List.length_reverse, PL_len]; omega) fun z hz => pt_parts hy z (List.mem_reverse.mp hz)
    decreasing_trivial
    refine f_split ?_
    decreasing_trivial
    refine gd (split_plus fy) ?_
    decreasing_trivial
    refine gd (a := .list ((PL y).reverse.map .str)) (by rw [List.map_reverse]; rfl) ?_
    decreasing_trivial
    refine gd (show gJoin (.str "+") (.list ((PL y).reverse.map .str)) = some (.str j1) from e1) ?_
    decreasing_trivial
    refine cat_list (by show m.length + 3 ≤ 1000; omega) ?_
    have hm : ∀ d ∈ m ++ [.str "+5", .str "1_0", .str j1], OT d := all_app tm (all_cons (OT.of (tp_lit 3 1 (by decide +kernel)) (by decide) (by decide)) (all_cons (OT.of (tp_lit 3 1 (by decide +kernel)) (by decide) (by decide)) (all_cons o1 all_nil)))
    have lm' : (m ++ [PyData.str "+5", .str "1_0", .str j1]).length = 9 := by
      rw [List.length_append]
      show m.length + 3 = 9
      omega
    generalize m ++ [PyData.str "+5", .str "1_0", .str j1] = m2 at hm lm'
    rcases kind_form' kb with ⟨w, ns, hw, ne, l6, nm, nd, rfl⟩ | ⟨a, b, ab, bm, rfl⟩
    · have nc : decide (tl w = tl ("count" : Str)) = false := by rcases hw with rfl | rfl <;> decide +kernel
      obtain ⟨j2, e2, o2⟩ := join_ot (zs := ns.reverse) (by rw [List.length_reverse]; omega) fun z hz => pt_name (nm z (List.mem_reverse.mp hz))
      obtain ⟨j4, e4, o4⟩ := join_ot (zs := ns) (by omega) fun z hz => pt_name (nm z hz)
      decreasing_trivial
      refine gd (at_0 _ _) ?_
      decreasing_trivial
      refine gd (ne_text' _ _) ?_
      rw [nc]
      decreasing_trivial
      refine gd (at_1 _ _ _) ?_
      decreasing_trivial
      refine gd (a := .tuple (ns.reverse.map .str)) (by rw [List.map_reverse]; rfl) ?_
      decreasing_trivial
      refine gd (show gJoin (.str "+") (.tuple (ns.reverse.map .str)) = some (.str j2) from e2) ?_
      decreasing_trivial
      refine gd (at_1 _ _ _) ?_
      decreasing_trivial
      refine neg_ok ?_
      decreasing_trivial
      refine sl_tup fun es le me => ?_
      obtain ⟨zs, rfl, hz⟩ := strs_in me
      decreasing_trivial
      refine gd (at_1 _ _ _) ?_
      decreasing_trivial
      refine sl_tup fun fs lf mf => ?_
      obtain ⟨ws, rfl, hw'⟩ := strs_in mf
      rw [List.length_map, List.length_map] at le lf
      refine cat_tup (by rw [List.length_map, List.length_map]; omega) ?_
      rw [← List.map_append]
      obtain ⟨j3, e3, o3⟩ := join_ot (zs := zs ++ ws) (by rw [List.length_append]; omega) fun z q => by
        rcases List.mem_append.mp q with q | q
        · exact pt_name (nm z (hz z q))
        · exact pt_name (nm z (hw' z q))
      refine gd (show gJoin (.str "+") (.tuple ((zs ++ ws).map .str)) = some (.str j3) from e3) ?_
      decreasing_trivial
      refine gd (at_1 _ _ _) ?_
      decreasing_trivial
      refine gd (show gJoin (.str "+") (.tuple (ns.map .str)) = some (.str j4) from e4) ?_
      decreasing_trivial
      refine cat_list (by show m2.length + 3 ≤ 1000; omega) ?_
      have hm3 : ∀ d ∈ m2 ++ [.str j2, .str j3, .str j4], OT d := all_app hm (all_cons o2 (all_cons o3 (all_cons o4 all_nil)))
      have lm3 : (m2 ++ [PyData.str j2, .str j3, .str j4]).length ≤ 100 := by
        rw [List.length_append]
        show m2.length + 3 ≤ 100
        omega
      repeat (first | exact (gs_mono (loopT_ok rfl kb fk hy py hp' hm3 lm3) (fun _ z => z.elim) (fun _ _ ⟨a, p, b, c, d⟩ => ⟨a, p, b, c, d⟩)) | decreasing_trivial_pre_omega)
    · decreasing_trivial
      refine gd (at_0 _ _) ?_
      decreasing_trivial
      refine gd (ne_text' _ _) ?_
      rw [show decide (tl ("count" : Str) = tl ("count" : Str)) = true by decide +kernel]
      repeat (first | exact (gs_mono (loopT_ok rfl kb fk hy py hp' hm (by omega)) (fun _ z => z.elim) (fun _ _ ⟨a, p, b, c, d⟩ => ⟨a, p, b, c, d⟩)) | decreasing_trivial_pre_omega)
end K04

namespace K04
open PySem PySem.Spec PyProof.Rows L2 Dl TL
local macro_rules | `(tactic| decreasing_trivial_pre_omega) => `(tactic| (first | with_reducible refine s_seq ?_ | with_reducible refine s_if ?_ | with_reducible refine s_set ?_ | with_reducible refine s_setIx ?_ | with_reducible refine s_ret ?_ | with_reducible refine s_nil ?_ | with_reducible refine s_own ?_ | with_reducible refine s_par ?_ | with_reducible refine t_tst ?_ | with_reducible refine t_and ?_ | with_reducible refine t_or ?_ | with_reducible refine t_not ?_ | with_reducible refine t_yes ?_ | with_reducible refine e_op ?_ | with_reducible refine e_un ?_ | with_reducible refine e_chain ?_ | with_reducible refine e_b ?_ | with_reducible refine e_c ?_ | with_reducible refine e_l ?_ | with_reducible refine e_tup ?_ | with_reducible refine e_call ?_ | with_reducible refine e_and ?_ | with_reducible refine e_or ?_ | with_reducible refine e_not ?_ | with_reducible refine e_if ?_ | with_reducible refine e_sl ?_ | with_reducible refine o_n ?_ | with_reducible refine o_s ?_ | with_reducible refine a_nil ?_ | with_reducible refine a_cons ?_ | with_reducible refine f_lst ?_ | with_reducible refine f_call ?_ | with_reducible refine f_itA ?_ | with_reducible refine f_r1 ?_ | with_reducible refine r_seq ?_ | with_reducible refine n_add ?_ | with_reducible refine n_sub ?_ | with_reducible refine n_gt ?_ | with_reducible refine n_ge ?_ | with_reducible refine n_lt ?_ | with_reducible refine n_le ?_ | with_reducible refine e_var (by with_unfolding_all rfl) ?_ | with_reducible refine e_ixc (by with_unfolding_all rfl) ?_ | with_reducible refine e_callM (by with_unfolding_all rfl) ?_ | with_reducible refine s_frz (by with_unfolding_all rfl) ?_ | with_reducible refine s_app (by with_unfolding_all rfl) ?_ | with_reducible refine few_and (by first | decide | (simp only [List.length_cons, List.length_nil, Nat.reduceAdd, Nat.reduceLeDiff])) ?_ | refine Or.inl ⟨by first | with_reducible rfl | with_reducible exact Bool.not_false, ?_⟩ | refine Or.inr ⟨by first | with_reducible rfl | with_reducible exact Bool.not_true, ?_⟩ | refine Exists.intro _ (Exists.intro _ ⟨rfl, rfl, gd rfl ?_⟩) | refine Exists.intro _ ⟨rfl, ?_⟩))
local macro_rules | `(tactic| decreasing_trivial) => `(tactic| repeat decreasing_trivial_pre_omega)
abbrev qR : Str := qt__law_refused_right
theorem ok7 {p : List PyData} {a b : PyData} {v3 v4 v5 : SV} (h3 : NT 1 qR v3) (h4 : NT 1 qR v4) (h5 : NT 1 qR v5) : okTab [.pot 0 p, .dat a, .dat b, v3, v4, v5, .tab 1 qR] 1 qR = true :=
  ok_of (by simp) (nt_cons (nt_pot _) (nt_cons (nt_dat _) (nt_cons (nt_dat _) (nt_cons h3 (nt_cons h4 (nt_cons h5 (nt_cons nt_me nt_nil)))))))
theorem val_list {kd : PyData} {ds : List PyData} (kb : kindB kd = true) : valB kd (.list ds) = false := by
  rcases kind_form' kb with ⟨w, ns, rfl | rfl, _, _, _, _, rfl⟩ | ⟨a, b, _, _, rfl⟩
  · rw [valB_pick]; rfl
  · rw [valB_some]; rfl
  · rfl
theorem read_not {kd d : PyData} (kb : kindB kd = true) (hs : strB d = false) : rxR kd d = .ex "NoValue" := by
  refine rxR_bad kb ?_
  cases d with
  | str y => cases hs
  | _ => exact val_none kb
theorem few_lit : fewP (.str "Z") := by show pc "Z" ≤ 19; decide +kernel
theorem few_not {d : PyData} (h : strB d = false) : fewP d := by
  cases d with
  | str y => cases h
  | _ => trivial
theorem things {v : PyData} (fv : Fit 1 v) (sv : strB v = false) : ∀ t ∈ [PyData.none, .int 5, .bool true, .tuple [.str "a"], .list [.str "a"], .dict [], v], Fit 2 t ∧ strB t = false := fun t ht => by
  simp only [List.mem_cons, List.not_mem_nil, or_false] at ht
  rcases ht with rfl | rfl | rfl | rfl | rfl | rfl | rfl
  · exact ⟨fit_none _, rfl⟩
  · exact ⟨fit_int _ (by decide +kernel), rfl⟩
  · exact ⟨fit_bool _ _, rfl⟩
  · exact ⟨fit_tup (Nat.le_of_ble_eq_true rfl) (all_cons (fit_str _ ⟨by decide, by decide⟩) all_nil), rfl⟩
  · exact ⟨fit_lst (Nat.le_of_ble_eq_true rfl) (all_cons (fit_str _ ⟨by decide, by decide⟩) all_nil), rfl⟩
  · exact ⟨fit_dict _, rfl⟩
  · exact ⟨fit_le fv (by decide), sv⟩
def tailR : DS := (sSeq (sIf (dTst (dOp gNe (dWord 1 qt__law_refused_right w__law_word m_read_value (aCons (dVar 1) (aCons (dVar 5) aNil))) (dC (.str "value"))))
  (sRet (dC (.bool false)))
  sNil)
  (sRet (dOr (dCall m__law_is_value (aCons (dVar 1) (aCons (dVar 4) aNil))) (dOp gEq (dWord 1 qt__law_refused_right w__law_word m_value_text (aCons (dVar 1) (aCons (dVar 4) aNil))) (dC (.str "value"))))))
theorem tailR_ok {N : Nat} {kd v odd t : PyData} {v3 : SV} {p : List PyData} {s : Sl} (hs : s = [.pot 0 p, .dat kd, .dat v, v3, .dat odd, .dat t, .tab 1 qR]) (kb : kindB kd = true) (fk : Fit 2 kd) (ft : Fit 2 t) (st : strB t = false) (fo : Fit 2 odd) (n3 : NT 1 qR v3) (hp : Pot N p) :
    Gs (tailR s) (fun _ => False) fun d s => okTab s 1 qR = true ∧ ∃ p', potOf s[0]? = some p' ∧ d = .bool true ∧ Pot N p' := by
  subst hs
  unfold tailR
  have rv := read_value_ok fk ft (few_not st)
  rw [read_not kb st] at rv
  decreasing_trivial
  refine e_word (ok7 n3 (nt_dat _) (nt_dat _)) ?_
  decreasing_trivial
  refine gd_mono rv fun u hu => ?_
  subst hu
  refine ⟨"value", word_value, ?_⟩
  decreasing_trivial
  refine gd (ne_text _) ?_
  decreasing_trivial
  refine gd_mono (law_is_value_ok kb fo) fun u hu => ?_
  subst hu
  have vt := value_text_ok fk fo
  cases vb : valB kd odd with
  | true => exact ⟨_, rfl, .inl ⟨rfl, ok7 n3 (nt_dat _) (nt_dat _), p, rfl, rfl, hp⟩⟩
  | false =>
    refine ⟨_, rfl, .inr ⟨rfl, ?_⟩⟩
    decreasing_trivial
    refine e_word (ok7 n3 (nt_dat _) (nt_dat _)) ?_
    decreasing_trivial
    refine gd_mono vt fun u hu => ?_
    have hu' : u = .ex "NoValue" := by
      rcases hu with ⟨a, _⟩ | ⟨_, _, a⟩ | ⟨_, a, _⟩
      · rw [kb] at a; cases a
      · exact a
      · rw [vb] at a; cases a
    subst hu'
    refine ⟨"value", word_value, ?_⟩
    decreasing_trivial
    refine gd (eq_text _ _) ?_
    rw [decide_eq_true rfl]
    exact ⟨ok7 n3 (nt_dat _) (nt_dat _), p, rfl, rfl, hp⟩
theorem refused_right_ok {n : Nat} {pd : List PyData} {kd v : PyData} (kb : kindB kd = true) (fk : Fit 2 kd) (fv : Fit 1 v) (h : Pot n pd) (hn : n < 200000) : Gd (m__law_refused_right pd [kd, v]) fun q => q.1 = .bool true ∧ Pot (n + 3) q.2 := by
  unfold m__law_refused_right
  refine m_fnMT rfl ?_
  unfold b__law_refused_right
  obtain ⟨ks, ek⟩ := kind_tuple kb
  have fkl : Fit 2 (.list ks) := by subst ek; exact fit_lst fk.1 fk.2
  have lst : gList [kd] = some (.list ks) := by subst ek; rfl
  decreasing_trivial
  refine gd lst ?_
  decreasing_trivial
  refine pot_at h (by omega) (by decide) (by decide) fun r1 p1 a0 a1 hp1 => ?_
  decreasing_trivial
  refine ix_list _ a0 (by exact a1) fun bad hbad => ?_
  have hb : kindB bad = false ∧ Fit 3 bad := by
    simp only [List.mem_cons, List.not_mem_nil, or_false] at hbad
    rcases hbad with rfl | rfl | rfl | rfl | rfl | rfl
    · exact ⟨by decide +kernel, fit_tup (Nat.le_of_ble_eq_true rfl) (all_cons (fit_str _ ⟨by decide, by decide⟩) (all_cons (fit_nil _) all_nil))⟩
    · exact ⟨by decide +kernel, fit_tup (Nat.le_of_ble_eq_true rfl) (all_cons (fit_str _ ⟨by decide, by decide⟩) (all_cons (fit_int _ (by decide +kernel)) (all_cons (fit_int _ (by decide +kernel)) all_nil)))⟩
    · exact ⟨rfl, fit_none _⟩
    · exact ⟨rfl, fit_le fkl (by decide)⟩
    · exact ⟨rfl, fit_str _ ⟨by decide, by decide⟩⟩
    · exact ⟨rfl, fit_tup (Nat.le_of_ble_eq_true rfl) (all_cons fk all_nil)⟩
  obtain ⟨kbad, fbad⟩ := hb
  decreasing_trivial
  refine neg_ok ?_
  decreasing_trivial
  refine n_pow (b := 39) 4 (by decide) (by decide) (by decide) (by decide) fun _ => ?_
  decreasing_trivial
  refine pot_at hp1 (by omega) (by decide) (by decide) fun r2 p2 b0 b1 hp2 => ?_
  decreasing_trivial
  refine ix_list _ b0 (by exact b1) fun odd hodd => ?_
  have ho : Fit 2 odd ∧ fewP odd := by
    simp only [List.mem_cons, List.not_mem_nil, or_false] at hodd
    rcases hodd with rfl | rfl | rfl | rfl | rfl | rfl | rfl | rfl | rfl
    · exact ⟨fit_none _, trivial⟩
    · exact ⟨fit_bool _ _, trivial⟩
    · exact ⟨fit_nilL _, trivial⟩
    · exact ⟨fit_dict _, trivial⟩
    · exact ⟨fit_tup (Nat.le_of_ble_eq_true rfl) (all_cons (fit_str _ ⟨by decide, by decide⟩) all_nil), trivial⟩
    · exact ⟨fit_int _ (by decide +kernel), trivial⟩
    · exact ⟨fit_int _ (by decide +kernel), trivial⟩
    · exact ⟨fit_str _ ⟨by decide, by decide⟩, few_lit⟩
    · exact ⟨fit_tup (Nat.le_of_ble_eq_true rfl) (all_cons (fit_nil _) all_nil), trivial⟩
  obtain ⟨fo, po⟩ := ho
  have vt1 : Gd (m_value_text [bad, v]) fun r => r = .ex "NoKind" := gd_mono (value_text_ok fbad fv) fun r hr => by
    rcases hr with ⟨_, a⟩ | ⟨a, _⟩ | ⟨a, _⟩
    · exact a
    · rw [kbad] at a; cases a
    · rw [kbad] at a; cases a
  have vt2 : Gd (m_value_text [bad, odd]) fun r => r = .ex "NoKind" := gd_mono (value_text_ok fbad fo) fun r hr => by
    rcases hr with ⟨_, a⟩ | ⟨a, _⟩ | ⟨a, _⟩
    · exact a
    · rw [kbad] at a; cases a
    · rw [kbad] at a; cases a
  have rv := read_value_ok fbad fo po
  rw [rxR_no kbad] at rv
  have iv := is_value_ok fbad fo
  rw [rxV_no kbad] at iv
  decreasing_trivial
  refine e_word (ok7 (nt_dat _) (nt_dat _) nt_no) ?_
  decreasing_trivial
  refine gd_mono vt1 fun u hu => ?_
  subst hu
  refine ⟨"kind", word_kind, ?_⟩
  decreasing_trivial
  refine gd (ne_text _) ?_
  decreasing_trivial
  refine e_word (ok7 (nt_dat _) (nt_dat _) nt_no) ?_
  decreasing_trivial
  refine gd_mono rv fun u hu => ?_
  subst hu
  refine ⟨"kind", word_kind, ?_⟩
  decreasing_trivial
  refine gd (ne_text _) ?_
  decreasing_trivial
  refine e_word (ok7 (nt_dat _) (nt_dat _) nt_no) ?_
  decreasing_trivial
  refine gd_mono vt2 fun u hu => ?_
  subst hu
  refine ⟨"kind", word_kind, ?_⟩
  decreasing_trivial
  refine gd (ne_text _) ?_
  decreasing_trivial
  refine e_word (ok7 (nt_dat _) (nt_dat _) nt_no) ?_
  decreasing_trivial
  refine gd_mono iv fun u hu => ?_
  subst hu
  refine ⟨"kind", word_kind, ?_⟩
  decreasing_trivial
  refine gd (ne_text _) ?_
  decreasing_trivial
  refine gd (isi_str_fit fv) ?_
  cases sv : strB v with
  | false =>
    refine ⟨_, rfl, .inl ⟨rfl, ?_⟩⟩
    decreasing_trivial
    refine pot_at hp2 (by omega) (by decide) (by decide) fun r3 p3 c0 c1 hp3 => ?_
    decreasing_trivial
    refine ix_list _ c0 (by exact c1) fun t ht => ?_
    obtain ⟨ft, st⟩ := things fv sv t ht
    repeat (first | exact (gs_mono (tailR_ok rfl kb fk ft st fo (nt_dat _) hp3) (fun _ z => z.elim) (fun _ _ ⟨a, p, b, c, d⟩ => ⟨a, p, b, c, d⟩)) | decreasing_trivial_pre_omega)
  | true =>
    refine ⟨_, rfl, .inr ⟨rfl, ?_⟩⟩
    decreasing_trivial
    refine pot_at hp2 (by omega) (by decide) (by decide) fun r3 p3 c0 c1 hp3 => ?_
    decreasing_trivial
    refine ix_list _ c0 (by exact c1) fun t ht => ?_
    obtain ⟨ft, st⟩ := things (fit_nil 0) rfl t ht
    repeat (first | exact (gs_mono (tailR_ok rfl kb fk ft st fo (nt_dat _) hp3) (fun _ z => z.elim) (fun _ _ ⟨a, p, b, c, d⟩ => ⟨a, p, b, c, d⟩)) | decreasing_trivial_pre_omega)
end K04

namespace Dl
open PySem PySem.Spec PyProof.Rows L2
theorem f_itZ {fo fe : DE} {QA : List PyData → Sl → Prop} {s : Sl} (h : Ge (fo s) fun a s1 => Ge (fe s1) fun b s2 => Gd (zipD a b) fun ds => QA ds s2) : Ge (itZ fo fe s) QA := by
  obtain ⟨a, s1, e1, b, s2, e2, ds, e3, k⟩ := h
  exact ⟨ds, s2, by unfold itZ; rw [e1, Option.bind_some, e2, Option.bind_some, e3]; rfl, k⟩
end Dl
namespace K04
open PySem PySem.Spec PyProof.Rows L2 Dl TL
local macro_rules | `(tactic| decreasing_trivial_pre_omega) => `(tactic| (first | with_reducible refine s_seq ?_ | with_reducible refine s_if ?_ | with_reducible refine s_set ?_ | with_reducible refine s_setIx ?_ | with_reducible refine s_ret ?_ | with_reducible refine s_nil ?_ | with_reducible refine s_own ?_ | with_reducible refine s_par ?_ | with_reducible refine t_tst ?_ | with_reducible refine t_and ?_ | with_reducible refine t_or ?_ | with_reducible refine t_not ?_ | with_reducible refine t_yes ?_ | with_reducible refine e_op ?_ | with_reducible refine e_un ?_ | with_reducible refine e_chain ?_ | with_reducible refine e_b ?_ | with_reducible refine e_c ?_ | with_reducible refine e_l ?_ | with_reducible refine e_tup ?_ | with_reducible refine e_call ?_ | with_reducible refine e_and ?_ | with_reducible refine e_or ?_ | with_reducible refine e_not ?_ | with_reducible refine e_if ?_ | with_reducible refine e_sl ?_ | with_reducible refine o_n ?_ | with_reducible refine o_s ?_ | with_reducible refine a_nil ?_ | with_reducible refine a_cons ?_ | with_reducible refine f_lst ?_ | with_reducible refine f_call ?_ | with_reducible refine f_itA ?_ | with_reducible refine f_r1 ?_ | with_reducible refine r_seq ?_ | with_reducible refine n_add ?_ | with_reducible refine n_sub ?_ | with_reducible refine n_gt ?_ | with_reducible refine n_ge ?_ | with_reducible refine n_lt ?_ | with_reducible refine n_le ?_ | with_reducible refine e_var (by with_unfolding_all rfl) ?_ | with_reducible refine e_ixc (by with_unfolding_all rfl) ?_ | with_reducible refine e_callM (by with_unfolding_all rfl) ?_ | with_reducible refine s_frz (by with_unfolding_all rfl) ?_ | with_reducible refine s_app (by with_unfolding_all rfl) ?_ | with_reducible refine few_and (by first | decide | (simp only [List.length_cons, List.length_nil, Nat.reduceAdd, Nat.reduceLeDiff])) ?_ | refine Or.inl ⟨by first | with_reducible rfl | with_reducible exact Bool.not_false, ?_⟩ | refine Or.inr ⟨by first | with_reducible rfl | with_reducible exact Bool.not_true, ?_⟩ | refine Exists.intro _ (Exists.intro _ ⟨rfl, rfl, gd rfl ?_⟩) | refine Exists.intro _ ⟨rfl, ?_⟩))
local macro_rules | `(tactic| decreasing_trivial) => `(tactic| repeat decreasing_trivial_pre_omega)
def textS (d : PyData) : Str := match textV d with
  | .str y => y
  | _ => ""
theorem textS_of {kd d : PyData} (kb : kindB kd = true) (h : valB kd d = true) : textV d = .str (textS d) := by
  obtain ⟨y, e, _⟩ := in_back kb h
  unfold textS
  rw [e]
theorem texts_map {kd : PyData} {vs : List PyData} (kb : kindB kd = true) (V : VS kd vs) : vs.map textV = (vs.map textS).map .str := by
  rw [List.map_map]
  exact List.map_congr_left fun d hd => textS_of kb (V.val d hd)
theorem texts_nd {kd : PyData} {vs : List PyData} (kb : kindB kd = true) (V : VS kd vs) : (vs.map textS).Nodup := by
  unfold List.Nodup
  rw [List.pairwise_map]
  refine List.Pairwise.imp_of_mem (fun {a b} ha hb ne e => ne ?_) V.nd
  refine text_inj kb (V.val a ha) (V.val b hb) ?_
  rw [textS_of kb (V.val a ha), textS_of kb (V.val b hb), e]
theorem unl_nd {zs : List Str} (h : zs.Nodup) : ∀ i, i ≤ zs.length → unl zs i = i
  | 0, _ => rfl
  | i + 1, l => by
    have ih := unl_nd h i (by omega)
    have at_ : zs[i]? = some zs[i] := List.getElem?_eq_getElem l
    have nd : (zs.take (i + 1)).Nodup := (List.take_sublist _ _).nodup h
    rw [List.take_succ_eq_append_getElem l] at nd
    have nm : zs[i] ∉ zs.take i := fun m => (List.nodup_append.mp nd).2.2 _ m _ List.mem_cons_self rfl
    unfold unl
    rw [at_]
    dsimp only
    rw [if_neg nm, ih]
theorem len_set {zs : List Str} (h : zs.Nodup) (l : zs.length ≤ 64) : gLenSetL (.list (zs.map .str)) = some (.int (zs.length : Nat)) := by
  show (strsS (zs.map .str)).bind _ = _
  rw [strs_map, Option.bind_some, if_pos (Nat.lt_of_le_of_lt (show zs.length + 1 ≤ 65 by omega) (by decide)), unl_nd h _ (Nat.le_refl _)]
theorem zip_self (g : PyData → PyData) : ∀ l : List PyData, List.zipWith (fun x y => PyData.tuple [x, y]) l (l.map g) = l.map fun d => .tuple [d, g d]
  | [] => rfl
  | d :: r => by rw [List.map_cons, List.map_cons, List.zipWith_cons_cons, zip_self g r]
/-- a cell that may be looked at -/
def Cl (v : SV) : Prop := v = .no ∨ ∃ d, v = .dat d
theorem cl_no : Cl .no := .inl rfl
theorem cl_dat (d : PyData) : Cl (.dat d) := .inr ⟨d, rfl⟩
theorem Cl.nt {v : SV} (h : Cl v) (j : Nat) (q : Str) : NT j q v := by
  rcases h with rfl | ⟨d, rfl⟩
  · exact nt_no
  · exact nt_dat d
theorem Cl.ow {v : SV} (h : Cl v) : notOwn (some v) = true := by
  rcases h with rfl | ⟨d, rfl⟩ <;> rfl
theorem ok10a {a b c d e : PyData} {p : List PyData} {v6 v7 : SV} (h6 : Cl v6) (h7 : Cl v7) : okTab [.dat a, .dat b, .own p, .dat c, .dat d, .dat e, v6, v7, .tab 0 qT, .tab 1 qR] 0 qT = true :=
  ok_of (by simp) (nt_cons (nt_dat _) (nt_cons (nt_dat _) (nt_cons (nt_own _) (nt_cons (nt_dat _) (nt_cons (nt_dat _) (nt_cons (nt_dat _) (nt_cons (h6.nt _ _) (nt_cons (h7.nt _ _) (nt_cons nt_me (nt_cons (nt_oth (by decide)) nt_nil))))))))))
theorem ok10b {a b c d e : PyData} {p : List PyData} {v6 v7 : SV} (h6 : Cl v6) (h7 : Cl v7) : okTab [.dat a, .dat b, .own p, .dat c, .dat d, .dat e, v6, v7, .tab 0 qT, .tab 1 qR] 1 qR = true :=
  ok_of (by simp) (nt_cons (nt_dat _) (nt_cons (nt_dat _) (nt_cons (nt_own _) (nt_cons (nt_dat _) (nt_cons (nt_dat _) (nt_cons (nt_dat _) (nt_cons (h6.nt _ _) (nt_cons (h7.nt _ _) (nt_cons (nt_oth (by decide)) (nt_cons nt_me nt_nil))))))))))
def lastL : DS := (sSeq (sFor (itZ (dVar 4) (dVar 5)) (tgT [(tgN 6), (tgN 7)])
  (sIf (dOrT (dTst (dOp gNe (dCall (okOf m_value_text) (aCons (dVar 3) (aCons (dVar 6) aNil))) (dVar 7))) (dTst (dOp gNe (dB gRepr (aCons (dCall (okOf m_read_value) (aCons (dVar 3) (aCons (dVar 7) aNil))) aNil)) (dB gRepr (aCons (dVar 6) aNil)))))
  (sRet (dC (.bool false)))
  sNil))
  (sSeq (sIf (dNotT (dTst (dCallMT 0 qt__law_texts_right m__law_texts_right 2 (aCons (dVar 3) (aCons (dOp gIx (dVar 5) (dCallM m__law_take 2 (aCons (dB gLen (aCons (dVar 5) aNil)) aNil))) aNil)))))
  (sRet (dC (.bool false)))
  sNil)
  (sIf (dNotT (dTst (dCallMT 1 qt__law_refused_right m__law_refused_right 2 (aCons (dVar 3) (aCons (dOp gIx (dVar 4) (dCallM m__law_take 2 (aCons (dB gLen (aCons (dVar 4) aNil)) aNil))) aNil)))))
  (sRet (dC (.bool false)))
  sNil)))
theorem lastL_ok {N : Nat} {x k kd : PyData} {vs : List PyData} {p : List PyData} {v7 : SV} {s : Sl} {R : PyData → Sl → Prop} (hs : s = [.dat x, .dat k, .own p, .dat kd, .dat (.list vs), .dat (.list ((vs.map textS).map .str)), .no, v7, .tab 0 qT, .tab 1 qR]) (kb : kindB kd = true) (fk : Fit 2 kd) (V : VS kd vs) (h7 : Cl v7) (hp : Pot N p) (hN : N < 100000) :
    Gs (lastL s) (fun s => ∃ p' v6 v7, Cl v6 ∧ Cl v7 ∧ s = [.dat x, .dat k, .own p', .dat kd, .dat (.list vs), .dat (.list ((vs.map textS).map .str)), v6, v7, .tab 0 qT, .tab 1 qR]) R := by
  subst hs
  unfold lastL
  refine s_seq ?_
  refine s_for (I := fun r s => ∃ (es : List PyData) (v6 v7 : SV), (∀ d ∈ es, valB kd d = true) ∧ r = es.map (fun d => .tuple [d, textV d]) ∧ Cl v6 ∧ Cl v7 ∧ s = [.dat x, .dat k, .own p, .dat kd, .dat (.list vs), .dat (.list ((vs.map textS).map .str)), v6, v7, .tab 0 qT, .tab 1 qR]) ?_ (fun d r s hI => ?_) (fun s hI => ?_)
  · refine f_itZ ?_
    decreasing_trivial
    refine gd (a := vs.map (fun d => .tuple [d, textV d])) ?_ ⟨vs, _, _, V.val, rfl, cl_no, h7, rfl⟩
    rw [← texts_map kb V]
    show some (List.zipWith (fun x y => PyData.tuple [x, y]) vs (vs.map textV)) = _
    rw [zip_self]
  · obtain ⟨es, v6, v7, ev, er, c6, c7, rfl⟩ := hI
    cases es with
    | nil => cases er
    | cons e es =>
      rw [List.map_cons] at er
      injection er with e1 e2
      subst e1 e2
      have ve := ev e List.mem_cons_self
      have ev' : ∀ d ∈ es, valB kd d = true := fun d hd => ev d (List.mem_cons_of_mem _ hd)
      obtain ⟨y, ty, iy, tx, py⟩ := in_back kb ve
      have fy : Fit 1 (.str y) := (TP.tx tx py).fit (by decide) 1
      have fe : Fit 1 e := by
        obtain ⟨w, r, rfl⟩ := kind_head kb
        rw [← iy]
        exact inW_fit fy (by omega)
      have vt : Gd (m_value_text [kd, e]) fun r => r = .ok (.str y) := gd_mono (value_text_ok fk fe) fun r hr => by
        rcases hr with ⟨a, _⟩ | ⟨_, a, _⟩ | ⟨_, _, a⟩
        · rw [kb] at a; cases a
        · rw [ve] at a; cases a
        · rw [a, ty]
      have rd : Gd (m_read_value [kd, .str y]) fun r => r = .ok e := gd_mono (read_value_ok fk fy (show pc y ≤ 19 by omega)) fun r hr => by
        rw [hr, rxR_ok (d := .str y) kb (by show valB kd (inV kd y) = true; rw [iy]; exact ve)]
        show Rx.ok (inV kd y) = _
        rw [iy]
      rw [ty]
      refine ⟨_, rfl, ?_⟩
      decreasing_trivial
      refine ok_gd vt ?_
      decreasing_trivial
      refine gd (ne_text _) ?_
      decreasing_trivial
      refine ok_gd rd ?_
      decreasing_trivial
      refine gd (repr_fit (fit_le fe (by decide))) ?_
      decreasing_trivial
      refine gd (repr_fit (fit_le fe (by decide))) ?_
      decreasing_trivial
      refine gd (ne_text _) ?_
      decreasing_trivial
      exact ⟨es, _, _, ev', rfl, cl_dat _, cl_dat _, rfl⟩
  · obtain ⟨es, v6, v7, _, _, c6, c7, rfl⟩ := hI
    have lz : ((vs.map textS).map PyData.str).length = vs.length := by rw [List.length_map, List.length_map]
    have pos := V.pos
    have few := V.few
    refine s_seq ?_
    refine s_if ?_
    refine t_not ?_
    refine t_tst ?_
    refine e_callMT rfl ?_
    decreasing_trivial
    refine gd (a := .int (((vs.map textS).map PyData.str).length : Nat)) rfl ?_
    decreasing_trivial
    rw [lz]
    refine pot_at hp (by omega) (by omega) (by omega) fun r1 p1 a0 a1 hp1 => ?_
    decreasing_trivial
    refine ix_list _ a0 (by rw [lz]; exact a1) fun t ht => ?_
    have ht' : ∃ e ∈ vs, t = .str (textS e) := by
      obtain ⟨z, hz, rfl⟩ := List.mem_map.mp ht
      obtain ⟨e, he, rfl⟩ := List.mem_map.mp hz
      exact ⟨e, he, rfl⟩
    obtain ⟨e, he, rfl⟩ := ht'
    obtain ⟨y, ty, iy, tx, py⟩ := in_back kb (V.val e he)
    have ey : textS e = y := by
      have := textS_of kb (V.val e he)
      rw [ty] at this
      injection this with this
      exact this.symm
    rw [ey]
    decreasing_trivial
    refine ⟨ok10a c6 c7, ?_⟩
    refine gd_mono (texts_right_ok kb fk tx py (show Pot _ p1 from hp1) (by omega)) fun q hq => ?_
    obtain ⟨d2, p2⟩ := q
    obtain ⟨e2, hp2⟩ := hq
    have e2' : d2 = .bool true := e2
    subst e2'
    decreasing_trivial
    refine e_callMT rfl ?_
    decreasing_trivial
    refine gd (a := .int (vs.length : Nat)) rfl ?_
    decreasing_trivial
    refine pot_at (show Pot _ p2 from hp2) (by omega) (by omega) (by omega) fun r3 p3 b0 b1 hp3 => ?_
    decreasing_trivial
    refine ix_list _ b0 (by exact b1) fun v hv => ?_
    have fv : Fit 1 v := by
      obtain ⟨y, ty, iy, tx, py⟩ := in_back kb (V.val v hv)
      have fy : Fit 1 (.str y) := (TP.tx tx py).fit (by decide) 1
      obtain ⟨w, r, rfl⟩ := kind_head kb
      rw [← iy]
      exact inW_fit fy (by omega)
    decreasing_trivial
    refine ⟨ok10b c6 c7, ?_⟩
    refine gd_mono (refused_right_ok kb fk fv (show Pot _ p3 from hp3) (by omega)) fun q hq => ?_
    obtain ⟨d4, p4⟩ := q
    obtain ⟨e4, hp4⟩ := hq
    have e4' : d4 = .bool true := e4
    subst e4'
    decreasing_trivial
    exact ⟨p4, v6, v7, c6, c7, rfl⟩
theorem law_ok (ns : List Int) (h : ns.length ≤ 63) : Gs (b_law (startTs ["_law_script", "_law_k", "_law_pot_here", "_law_kind_here", "_law_values", "_law_texts", "_law_value_here", "_law_text", "~tab0", "~tab1"] [qT, qR] [script ns])) (fun _ => False) fun d _ => d = .bool true := by
  show Gs (b_law [.dat (script ns), .no, .no, .no, .no, .no, .no, .no, .tab 0 qT, .tab 1 qR]) _ _
  unfold b_law
  refine s_seq ?_
  refine s_for (I := fun r s => (∀ d ∈ r, ∃ k : Nat, d = .int (k : Int) ∧ k < 100) ∧ ∃ v1 v2 v3 v4 v5 v6 v7 : SV, Cl v6 ∧ Cl v7 ∧ s = [.dat (script ns), v1, v2, v3, v4, v5, v6, v7, .tab 0 qT, .tab 1 qR]) ?_ (fun d r s hI => ?_) (fun s hI => ?_)
  · decreasing_trivial
    refine gd (a := .int ((ns.map PyData.int).length : Nat)) rfl ?_
    decreasing_trivial
    refine gd (a := .int (if ((ns.map PyData.int).length : Int) < 10 then ((ns.map PyData.int).length : Int) else 10)) rfl ?_
    decreasing_trivial
    refine gd (a := .int (if (if ((ns.map PyData.int).length : Int) < 10 then ((ns.map PyData.int).length : Int) else 10) > 3 then (if ((ns.map PyData.int).length : Int) < 10 then ((ns.map PyData.int).length : Int) else 10) else 3)) rfl ?_
    decreasing_trivial
    generalize hm : (if (if ((ns.map PyData.int).length : Int) < 10 then ((ns.map PyData.int).length : Int) else 10) > 3 then (if ((ns.map PyData.int).length : Int) < 10 then ((ns.map PyData.int).length : Int) else 10) else 3) = m
    have m0 : 0 ≤ m ∧ m ≤ 12 := by
      rw [← hm]
      split <;> split <;> omega
    refine ⟨m0.1, by omega, fun d hd => ?_, _, _, _, _, _, _, _, cl_no, cl_no, rfl⟩
    unfold Dl.rng at hd
    obtain ⟨k, hk, rfl⟩ := List.mem_map.mp hd
    have hk' := List.mem_range.mp hk
    exact ⟨k, by rw [Int.zero_add], by omega⟩
  · obtain ⟨hr, v1, v2, v3, v4, v5, v6, v7, c6, c7, rfl⟩ := hI
    obtain ⟨k, rfl, hk⟩ := hr d List.mem_cons_self
    have hr' : ∀ d ∈ r, ∃ k : Nat, d = .int (k : Int) ∧ k < 100 := fun e he => hr e (List.mem_cons_of_mem _ he)
    refine ⟨_, rfl, ?_⟩
    decreasing_trivial
    refine gd_mono (pot_ok (ns := ns) hk) fun pd hpd => ?_
    refine ⟨by show 2 < 10; decide, ?_⟩
    decreasing_trivial
    refine gd_mono (kind_ok hpd (by decide)) fun q hq => ?_
    obtain ⟨d1, p1⟩ := q
    obtain ⟨ds, e, kb, pl, hp1⟩ := hq
    have e' : d1 = .tuple ds := e
    subst e'
    have hp1' : Pot 160 p1 := (show Pot _ p1 from hp1).mono (by omega)
    have fk : Fit 2 (.tuple ds) := fit_pl pl
    generalize hd : PyData.tuple ds = kd at kb pl fk
    decreasing_trivial
    refine gd_mono (all_values_ok kb hp1' (by decide)) fun q hq => ?_
    obtain ⟨d2, p2⟩ := q
    obtain ⟨vs, e, V, hp2⟩ := hq
    have e' : d2 = .list vs := e
    subst e'
    have hp2' : Pot 161 p2 := hp2
    refine s_seq ?_
    refine s_fgt (c6.ow) ?_
    refine s_seq ?_
    refine s_set ?_
    refine e_l ?_
    refine f_lc_pure (fun _ => true) textV ?_
    decreasing_trivial
    refine .inl ⟨vs, .inl rfl, rfl, Nat.lt_of_le_of_lt V.few (by decide), fun z hz => ⟨?_, fun _ => ?_⟩, ?_⟩
    · decreasing_trivial
      exact ⟨rfl, rfl⟩
    · decreasing_trivial
      refine gd_mono (written_ok kb (V.val z hz)) fun u hu => ?_
      exact ⟨hu, rfl⟩
    · rw [List.filter_eq_self.mpr (fun _ _ => rfl), texts_map kb V]
      decreasing_trivial
      refine gd (len_set (texts_nd kb V) (by rw [List.length_map]; exact V.few)) ?_
      decreasing_trivial
      refine gd (a := .int (((vs.map textS).map PyData.str).length : Nat)) rfl ?_
      decreasing_trivial
      refine gd (a := .bool false) (by rw [List.length_map (as := vs.map textS)]; rw [ne_int]; simp) ?_
      repeat (first | exact (gs_mono (lastL_ok (N := 161) rfl kb fk V c7 hp2' (by decide)) (fun _ z => by obtain ⟨p', v6, v7, c6, c7, rfl⟩ := z; exact ⟨hr', _, _, _, _, _, _, _, c6, c7, rfl⟩) (fun _ _ z => z)) | decreasing_trivial_pre_omega)
  · obtain ⟨_, v1, v2, v3, v4, v5, v6, v7, _, _, rfl⟩ := hI
    decreasing_trivial
    rfl
theorem law_true (ns : List Int) (h : ns.length ≤ 63) : fnTs ["_law_script", "_law_k", "_law_pot_here", "_law_kind_here", "_law_values", "_law_texts", "_law_value_here", "_law_text", "~tab0", "~tab1"] [qt__law_texts_right, qt__law_refused_right] 1 b_law [.dict [(.none, .list (ns.map .int))]] = some (.bool true) := by
  obtain ⟨⟨s, e, z⟩ | ⟨d, s, e, rfl⟩⟩ := law_ok ns h
  · exact z.elim
  · unfold fnTs
    rw [if_pos (show [PyData.dict [(PyData.none, PyData.list (ns.map PyData.int))]].length = 1 from rfl)]
    have e' : b_law (startTs ["_law_script", "_law_k", "_law_pot_here", "_law_kind_here", "_law_values", "_law_texts", "_law_value_here", "_law_text", "~tab0", "~tab1"] [qt__law_texts_right, qt__law_refused_right] [.dict [(.none, .list (ns.map .int))]]) = _ := e
    rw [e']
    rfl
end K04

open PySem PySem.W PySem.Calls PyProof.Rows
theorem PySem.Challenge.cw_askround_k04_whole_values_written_holds : PySem.Challenge.rw_askround_k04_whole_values_written.Holds := by
  w_on; o_law
  refine HandSHeadRun.head_any (r := K04.R_) (q := view K04.R_.prog [72]) (H := K04.hk_) (ob := K04.ob_) (M := 30000) (loose := K04.names_) (d := HandSHeadRun.topDef K04.R_.prog 72) (kwd := []) K04.ob_eq
    (by kernel_rfl) (fun s => by kernel_rfl) K04.run_ (by kernel_rfl) (by kernel_rfl) (by kernel_rfl) (by rfl) (by first | assumption | decide +kernel) (by decide +kernel) ⟨rfl, rfl, rfl, rfl, rfl, by decide +kernel⟩ ?hw ?hc
  case hw => w_witness2
  case hc =>
    exact Dl.walk_dataM K04.dds_ (l := PySem.Challenge.rw_askround_k04_whole_values_written) (n := 63) (k := 10) (qs := K04.qs_) rfl (by decide) (by kernel_rfl) (by kernel_rfl) (by kernel_rfl) ⟨rfl, by decide, by decide⟩ K04.sc_law (by decide) rfl (fun w mg h K X G c cc bb Fx => K04.facts_ w mg h K X G c cc bb Fx) K04.law_true
