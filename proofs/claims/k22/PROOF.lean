import PyProof.Rows.All
import Wide.All
import OpenK.AllK
import Wide.FinOn
import Lean
import PyProof.EqAt
import PyProof.EqKinds
import PyProof.TupleCall
import KE.KSortTup
import PySem.SetTable
import KE.KDictList
import PyProof.Rows.SeqMore
import PyProof.StrLawsIn
import PyProof.MeetsStr3
import PyProof.Rows.StrSplitMax
import KE.KDictLaws
import PyProof.Rows.CallKwBuiltin
import PyProof.ZipIter
import PyProof.Rows.ZipGen
import PyProof.Rows.StrWeight2
import KE.KDictSum
import KE.KTryMore
import PyProof.Rows.TopTwo
import PyProof.ExcBaseAll.ValueError
import KE.RegKIsAll
import KE.RegKTryMore
import PyProof.ExcAttrAll.ValueError
import PyProof.Rows.StrDouble
import OpenK.KCls
import KE.KIntText
import PyProof.CallStr
import PyProof.ExcInit
import PyProof.Rows.FStr
import PyProof.Rows.FStrParts
import PyProof.InstStoreFacts
import OpenK.KMake
import PyProof.Logic
import PyProof.Rows.StrJoinMade
import PyProof.ReprRoads
import PyProof.ReprLen
import PyProof.StrLawsRepr
import PySem.Challenge.RW_folk_k22_rules_refused
set_option genSizeOf false
set_option bootstrap.genMatcherCode false
noncomputable section
set_option Elab.async false
set_option linter.all false
set_option maxRecDepth 100000
namespace L2
open PySem PySem.Spec PyProof.Rows
noncomputable abbrev Key := Sum Int Str
noncomputable def zsk : Key -> Value -> Bool
 | .inl k, v => Value.isInt k v
 | .inr x, v => Value.isStrOf x v
noncomputable def keyH (w : World) : Key -> Int
 | .inl k => hashInt k
 | .inr x => hashStr w x
theorem zbl : ∀ {k : Key} {v : Value}, zsk k v = true -> (∃ i t, k = Sum.inl i /\ v = Value.int i t) \/ (∃ x t, k = Sum.inr x /\ v = Value.str x t)
 | .inl i, v, h => by
  obtain ⟨t, e⟩ := Value.isInt_shape (k:=i) (v:=v) h
  exact .inl ⟨i, t, rfl, e⟩
 | .inr x, v, h => by
  obtain ⟨t, e⟩ := Value.isStrOf_shape (x:=x) (v:=v) h
  exact .inr ⟨x, t, rfl, e⟩
theorem zrz (a b : Int) : decide ((Sum.inl a : Key) = Sum.inl b) = (a == b) := by
 by_cases e : a = b
 ·subst e; simp
 ·have h : ¬ (Sum.inl a : Key) = Sum.inl b := fun q => e (Sum.inl.inj q)
  rw [decide_eq_false h]
  exact (beq_eq_false_iff_ne.mpr e).symm
theorem zq7 (a b : Str) : decide ((Sum.inr a : Key) = Sum.inr b) = decide (a = b) := by
 by_cases e : a = b
 ·subst e; simp
 ·have h : ¬ (Sum.inr a : Key) = Sum.inr b := fun q => e (Sum.inr.inj q)
  rw [decide_eq_false h, decide_eq_false e]
theorem zsh (a : Int) (b : Str) : decide ((Sum.inl a : Key) = Sum.inr b) = false := decide_eq_false (fun q => nomatch q)
theorem zr5 (a : Str) (b : Int) : decide ((Sum.inr a : Key) = Sum.inl b) = false := decide_eq_false (fun q => nomatch q)
noncomputable def zem (prog : Program) (w : World) : PySem.KeyKind prog w Key where
 is := zsk
 hash := keyH w
 inj := fun v a b ha hb => by
  rcases zbl ha with ⟨i, t, rfl, rfl⟩ | ⟨x, t, rfl, rfl⟩
  ·rcases zbl hb with ⟨j, u, rfl, e⟩ | ⟨y, u, rfl, e⟩
   ·injection e with e1 _; rw [e1]
   ·exact nomatch e
  ·rcases zbl hb with ⟨j, u, rfl, e⟩ | ⟨y, u, rfl, e⟩
   ·exact nomatch e
   ·injection e with e1 _; rw [e1]
 byValue := fun k v h => by
  rcases zbl h with ⟨i, t, rfl, rfl⟩ | ⟨x, t, rfl, rfl⟩ <;> rfl
 pyHash := fun hv h => by
  rcases zbl hv with ⟨i, t, rfl, rfl⟩ | ⟨x, t, rfl, rfl⟩
  ·exact wpAny_pyHash_int h
  ·exact wpAny_pyHash_str h
 eqBool := fun hu hv h => by
  rcases zbl hu with ⟨i, t, rfl, rfl⟩ | ⟨x, t, rfl, rfl⟩
  ·rcases zbl hv with ⟨j, u, rfl, rfl⟩ | ⟨y, u, rfl, rfl⟩
   ·rw [zrz] at h; exact wpAny_eqBool_int h
   ·rw [zsh] at h; exact SeqAt.EqAt.int_str i t y u _ _ _ _ h
  ·rcases zbl hv with ⟨j, u, rfl, rfl⟩ | ⟨y, u, rfl, rfl⟩
   ·rw [zr5] at h; exact SeqAt.EqAt.str_int x t j u _ _ _ _ h
   ·rw [zq7] at h; exact wpAny_eqBool_str h
 «strs» := fun k x t v h => by
  rcases zbl h with ⟨i, u, rfl, e⟩ | ⟨y, u, rfl, e⟩
  ·exact nomatch e
  ·injection e with e1 _
   subst e1
   cases v <;> rfl
end L2
namespace L2
open PySem PySem.Spec PyProof.Rows
inductive V where
 | non | bl (b : Bool) | int (i : Int) | str (x : Str) | byt (b : Array UInt8) | flt (b : UInt64) | ref (a : Addr) | ty (n : String)
 deriving DecidableEq
noncomputable def RelV : V -> Value -> Prop
 | .non, u => u = Value.none
 | .bl b, u => u = Value.bool b
 | .int i, u => ∃ t, u = Value.int i t
 | .str x, u => ∃ t, u = Value.str x t
 | .byt b, u => ∃ t, u = Value.bytes b t
 | .flt b, u => ∃ t, u = Value.float b t
 | .ref a, u => u = Value.ref a
 | .ty n, u => u = Value.type n
noncomputable abbrev Vals : List V -> List Value -> Prop := Paired RelV
theorem Vals.length {xs : List V} {us : List Value} (r : Vals xs us) : xs.length = us.length := Paired.length r
theorem Vals.get : ∀ {xs : List V} {us : List Value} {i : Nat} {x : V}, Vals xs us -> xs[i]? = some x -> ∃ u, us[i]? = some u /\ RelV x u
 | _, _, _, _, .nil, e => by simp at e
 | _, _, 0, _, .cons r _, e => by simp at e; subst e; exact ⟨_, rfl, r⟩
 | _, _, i + 1, x, .cons _ t, e => by
  obtain ⟨u, h1, h2⟩ := Vals.get (i:=i) (x:=x) t (by simpa using e)
  exact ⟨u, by simpa using h1, h2⟩
theorem Vals.append : ∀ {xs ys : List V} {us ws : List Value}, Vals xs us -> Vals ys ws -> Vals (xs ++ ys) (us ++ ws)
 | _, _, _, _, .nil, s => s
 | _, _, _, _, .cons r t, s => .cons r (Vals.append t s)
theorem Vals.take : ∀ {xs : List V} {us : List Value} (n : Nat), Vals xs us -> Vals (xs.take n) (us.take n)
 | _, _, 0, _ => .nil
 | _, _, _ + 1, .nil => .nil
 | _, _, n + 1, .cons r t => .cons r (Vals.take n t)
theorem Vals.drop : ∀ {xs : List V} {us : List Value} (n : Nat), Vals xs us -> Vals (xs.drop n) (us.drop n)
 | _, _, 0, r => r
 | _, _, _ + 1, .nil => .nil
 | _, _, n + 1, .cons _ t => Vals.drop n t
noncomputable def RelO : Option V -> Option Value -> Prop
 | some v, some u => RelV v u
 | none, none => True
 | _, _ => False
noncomputable def KV {κ : Type} : List (κ × V) -> List (κ × Value) -> Prop := Paired fun (p : κ × V) (q : κ × Value) => p.1 = q.1 /\ RelV p.2 q.2
noncomputable def kV : Key -> V
 | .inl i => .int i
 | .inr x => .str x
inductive HO where
 /-- a list -/
 | lst (xs : List V)
 /-- a tuple (never changes) -/
 | tup (xs : List V)
 /-- a dict whose keys are ints and texts; one whose keys are tuples of ints and texts (the empty one is both) -/
 | dK (kvs : List (Key × V)) | dT (kvs : List (List Key × V))
 /-- a set of ints: its members, its size -/
 | set (S : Int -> Bool) (n : Nat)
 /-- an instance of the class at C, its dict at dx, its attributes -/
 | ins (C dx : Addr) (fs : List (Str × V))
 /-- the dict of the instance at x -/
 | own (x : Addr)
 /-- the dict of an exception -/
 | xd (fs : List (Str × V))
 /-- a bound method, f of x -/
 | met (f x : Addr)
 /-- a range object lo, lo + 1, .. below hi -/
 | rng (lo hi : Int)
 /-- a thing that is known to the object (the script; a dict while a loop walks it): read, never written while it is so -/
 | frz (o : Obj) (u : HO)
 /-- a code object's table -/
 | tbl (ps : Array Value)
 /-- any other thing, by what is true of its one object (a def of one's own: SetO a S n := HO.ext fun h => ..) -/
 | ext (φ : Heap -> Prop)
noncomputable abbrev Hp := Addr -> Option HO
noncomputable def upd (H : Hp) (a : Addr) (o : HO) : Hp := fun b => if b = a then some o else H b
theorem zah {H : Hp} {a : Addr} {o : HO} : upd H a o a = some o := by unfold upd; rw [if_pos rfl]
theorem zaj {H : Hp} {a b : Addr} {o : HO} (h : b ≠ a) : upd H a o b = H b := by unfold upd; rw [if_neg h]
theorem zr3 {H : Hp} {a b : Addr} {o u : HO} (h : H a = some o) (h' : H b = some u) (d : o ≠ u) : a ≠ b := by
 intro e; subst e; rw [h] at h'; exact d (Option.some.inj h')
theorem zam {H : Hp} {a b : Addr} {o : HO} (h : H a = some o) (h' : H b = none) : a ≠ b := by
 intro e; subst e; rw [h] at h'; cases h'
section
variable (P : Program) (w : World)
noncomputable def zdp (H : Hp) (h : Heap) (a : Addr) : HO -> Prop
 | .lst xs => xs.length <= sizeLine /\ ∃ (its : List Value) (n : Nat), Vals xs its /\ h.get? a = some { cls := .type "list", data := .seq its.toArray n }
 | .tup xs => xs.length <= sizeLine /\ ∃ its : List Value, Vals xs its /\ IsTup h a its.toArray
 | .dK kvs => kvs.length <= sizeLine /\ (a == sysModules) = false /\ ∃ vs, KV kvs vs /\ h.DictOf (zem P w) a vs
 | .dT kvs => kvs.length <= sizeLine /\ (a == sysModules) = false /\ ∃ xs : List (List Key × Addr × Value),
   Paired (fun (p : List Key × V) (q : List Key × Addr × Value) => p.1 = q.1 /\ H q.2.1 = some (.tup (p.1.map kV)) /\ RelV p.2 q.2.2) kvs xs /\
   ∃ o es ep, h.get? a = some o /\ o.ExactDict /\ o.data = .dict es ep /\ es.toList = xs.map (entryOfKey (tupleKind (zem P w))) /\ (xs.map (·.1)).Nodup
 | .set S n => h.SetOf (intKind P w) a S n
 | .ins C dx fs => H dx = some (.own a) /\ fs.length <= 1000 /\ dx ≠ a /\ h.get? a = some (PySem.W.instObj C dx) /\
   ∃ mA, h.Ns1 dx mA /\ (∀ f, RelO (fs.lookup f) (mA f)) /\ PySem.Within mA (fs.map (·.1))
 | .own _ => ∃ o, h.get? a = some o
 | .xd fs => ∃ mA, h.Ns1 a mA /\ ∀ f, RelO (fs.lookup f) (mA f)
 | .rng lo hi => ∃ t u v, h.get? a = some { cls := .type "range", data := .fields #[.int lo t, .int hi u, .int 1 v] }
 | .frz o u => h.get? a = some o /\ zdp H h a u
 | .tbl ps => h.get? a = some { cls := .none, data := .fields ps }
 | .met f x => h.get? a = some (PySem.W.methodObj (.ref f) (.ref x))
 | .ext φ => φ h /\ (∃ o, h.get? a = some o) /\ ∀ h1 h2 : Heap, φ h1 -> (∀ o, h1.get? a = some o -> h2.get? a = some o) -> φ h2
noncomputable def HOk (H : Hp) (h : Heap) : Prop := ∀ a o, H a = some o -> zdp P w H h a o
end
section
variable {P : Program} {w : World} {H H' : Hp} {h h' : Heap} {a : Addr} {o : HO}
theorem zdp.lt (x : zdp P w H h a o) : a < h.objs.size := by
 cases o with
 | lst xs => obtain ⟨_, _, _, _, e⟩ := x; exact Heap.lt_size e
 | tup xs => obtain ⟨_, _, _, p⟩ := x; exact p.lt
 | dK kvs => obtain ⟨_, _, _, _, o, _, _, e, _⟩ := x; exact Heap.lt_size e
 | dT kvs => obtain ⟨_, _, _, _, o, _, _, e, _⟩ := x; exact Heap.lt_size e
 | set S n => obtain ⟨o, _, _, _, e, _⟩ := x; exact Heap.lt_size e
 | ins C dx fs => obtain ⟨_, _, _, e, _⟩ := x; exact Heap.lt_size e
 | own y => obtain ⟨_, e⟩ := x; exact Heap.lt_size e
 | xd fs => obtain ⟨_, ⟨_, _, _, e, _⟩, _⟩ := x; exact Heap.lt_size e
 | rng lo hi => obtain ⟨_, _, _, e⟩ := x; exact Heap.lt_size e
 | frz ob u => obtain ⟨e, _⟩ := x; exact Heap.lt_size e
 | tbl ps => exact Heap.lt_size (show h.get? a = some _ from x)
 | met f y => exact Heap.lt_size (show h.get? a = some _ from x)
 | ext φ => obtain ⟨_, ⟨_, e⟩, _⟩ := x; exact Heap.lt_size e
theorem Paired.mapP {α β : Type} {F G : α -> β -> Prop} : ∀ {l₁ : List α} {l₂ : List β}, Paired F l₁ l₂ -> (∀ a b, F a b -> G a b) -> Paired G l₁ l₂
 | _, _, .nil, _ => .nil
 | _, _, .cons r t, f => .cons (f _ _ r) (Paired.mapP t f)
theorem zdp.stay (x : zdp P w H h a o) (k : ∀ b u, (b = a \/ H b = some (.own a)) -> h.get? b = some u -> h'.get? b = some u)
  (ho : ∀ b, H b = some (.own a) -> H' b = some (.own a)) (ht : ∀ b xs, H b = some (.tup xs) -> H' b = some (.tup xs)) : zdp P w H' h' a o := by
 induction o with
 | lst xs => obtain ⟨z, its, n, r, e⟩ := x; exact ⟨z, its, n, r, k _ _ (.inl rfl) e⟩
 | tup xs => obtain ⟨z, its, r, ob, e, c⟩ := x; exact ⟨z, its, r, ob, k _ _ (.inl rfl) e, c⟩
 | dK kvs => obtain ⟨z, y, vs, r, ob, es, ep, e, c⟩ := x; exact ⟨z, y, vs, r, ob, es, ep, k _ _ (.inl rfl) e, c⟩
 | dT kvs =>
  obtain ⟨z, y, xs, r, ob, es, ep, e, c⟩ := x
  exact ⟨z, y, xs, Paired.mapP r fun p q z => ⟨z.1, ht _ _ z.2.1, z.2.2⟩, ob, es, ep, k _ _ (.inl rfl) e, c⟩
 | set S n => obtain ⟨ob, es, ep, t, e, c⟩ := x; exact ⟨ob, es, ep, t, k _ _ (.inl rfl) e, c⟩
 | ins C dx fs =>
  obtain ⟨d, z, ne, e, mA, ⟨od, es, ep, e2, c⟩, r⟩ := x
  exact ⟨ho _ d, z, ne, k _ _ (.inl rfl) e, mA, ⟨od, es, ep, k _ _ (.inr d) e2, c⟩, r⟩
 | own y => obtain ⟨ob, e⟩ := x; exact ⟨ob, k _ _ (.inl rfl) e⟩
 | xd fs => obtain ⟨mA, ⟨od, es, ep, e, c⟩, r⟩ := x; exact ⟨mA, ⟨od, es, ep, k _ _ (.inl rfl) e, c⟩, r⟩
 | rng lo hi => obtain ⟨t, u, v, e⟩ := x; exact ⟨t, u, v, k _ _ (.inl rfl) e⟩
 | frz ob u ih => obtain ⟨e, q⟩ := x; exact ⟨k _ _ (.inl rfl) e, ih q⟩
 | tbl ps =>
  have e : h.get? a = some { cls := .none, data := .fields ps } := x
  show h'.get? a = some { cls := .none, data := .fields ps }
  exact k a _ (.inl rfl) e
 | met f y =>
  have e : h.get? a = some (PySem.W.methodObj (.ref f) (.ref y)) := x
  show h'.get? a = some (PySem.W.methodObj (.ref f) (.ref y))
  exact k a _ (.inl rfl) e
 | ext φ => obtain ⟨p, ⟨o, e⟩, st⟩ := x; exact ⟨st _ _ p fun o q => k _ _ (.inl rfl) q, ⟨o, k _ _ (.inl rfl) e⟩, st⟩
theorem HOk.lt (x : HOk P w H h) (e : H a = some o) : a < h.objs.size := (x a o e).lt
theorem HOk.fresh (x : HOk P w H h) (e : h.objs.size <= a) : H a = none := by
 cases q : H a with
 | none => rfl
 | some u => exact absurd (Nat.lt_of_lt_of_le (x.lt q) e) (Nat.lt_irrefl _)
theorem HOk.kept (x : HOk P w H h) (k : ∀ b u, h.get? b = some u -> h'.get? b = some u) : HOk P w H h' := fun a o e =>
 (x a o e).stay (fun b u _ q => k b u q) (fun _ q => q) fun _ _ q => q
theorem HOk.laid (x : HOk P w H h) (k : ∀ b u, h.get? b = some u -> h'.get? b = some u) (hp : h.objs.size <= a) (new : zdp P w (upd H a o) h' a o) : HOk P w (upd H a o) h' := fun b u e => by
 have hn := x.fresh hp
 by_cases hb : b = a
 ·subst hb; rw [zah] at e; cases e; exact new
 ·rw [zaj hb] at e
  exact (x b u e).stay (fun c v _ q => k c v q) (fun c q => by rw [zaj (zam q hn)]; exact q) fun c xs q => by rw [zaj (zam q hn)]; exact q
end
noncomputable def Rd (H : Hp) (a : Addr) (u : HO) : Prop := H a = some u \/ ∃ o, H a = some (.frz o u)
theorem Rd.ok {P : Program} {w : World} {H : Hp} {h : Heap} {a : Addr} {u : HO} (r : Rd H a u) (x : HOk P w H h) : zdp P w H h a u := by
 rcases r with r | ⟨o, r⟩
 ·exact x a u r
 ·obtain ⟨_, q⟩ := x a _ r
  exact q
noncomputable def Mut : Option HO -> Prop
 | some (.lst _) => True
 | some (.dK _) => True
 | some (.dT _) => True
 | some (.set _ _) => True
 | some (.ins _ _ _) => True
 | some (.ext _) => True
 | _ => False
section
variable {P : Program} {w : World} {H : Hp} {h h' : Heap} {x e : Addr} {o' : HO}
theorem HOk.write (ok : HOk P w H h) (mu : Mut (H x)) (he : e = x \/ H e = some (.own x)) (k : ∀ b u, b ≠ e -> h.get? b = some u -> h'.get? b = some u) (heo : ∃ u, h'.get? e = some u)
  (new : zdp P w (upd H x o') h' x o') : HOk P w (upd H x o') h' := fun b u q => by
 have nown : ∀ c y, H c = some (.own y) -> c ≠ x := fun c y r z => by subst z; rw [r] at mu; exact mu
 have ntup : ∀ c xs, H c = some (.tup xs) -> c ≠ x := fun c xs r z => by subst z; rw [r] at mu; exact mu
 by_cases hb : b = x
 ·subst hb; rw [zah] at q; cases q; exact new
 ·rw [zaj hb] at q
  by_cases hbe : b = e
  ·have q' : H b = some (.own x) := by
    rcases he with z | z
    ·exact absurd (hbe.trans z) hb
    ·rw [hbe]; exact z
   rw [q] at q'; cases q'
   obtain ⟨v, hv⟩ := heo
   exact ⟨v, by rw [hbe]; exact hv⟩
  ·refine (ok b u q).stay (fun c v hc r => k c v ?_ r) (fun c r => by rw [zaj (nown c b r)]; exact r) fun c xs r => by rw [zaj (ntup c xs r)]; exact r
   rcases hc with rfl | hc
   ·exact hbe
   ·rintro rfl
    rcases he with z | z
    ·exact nown c b hc z
    ·rw [hc] at z; cases z; exact hb rfl
end
structure Un (fs ex : List Addr) (H H' : Hp) (h h' : Heap) : Prop where
 keep : ∀ b o, h.get? b = some o -> H b = none -> b ∉ fs -> b ∉ ex -> h'.get? b = some o
 slot : ∀ b o, h.get? b = some o -> H b = none -> b ∈ fs -> b ∉ ex -> ∃ sl, h'.get? b = some { o with slots := sl }
 free : ∀ b o, h.get? b = some o -> H b = none -> b ∉ ex -> H' b = none
 there : ∀ b o, h.get? b = some o -> b ∉ ex -> ∃ o', h'.get? b = some o'
 tups : ∀ b xs, H b = some (.tup xs) -> H' b = some (.tup xs)
 frzs : ∀ b o u, H b = some (.frz o u) -> H' b = some (.frz o u)
 tbls : ∀ b ps, H b = some (.tbl ps) -> ∃ more, H' b = some (.tbl (ps ++ more))
section
variable {fs fs' ex ex' : List Addr} {H H1 H2 : Hp} {h h1 h2 h' : Heap} {a x e : Addr} {o : HO}
theorem Un.any (u : Un fs ex H H1 h h1) {b : Addr} {ob : Obj} (q : h.get? b = some ob) (n : H b = none) (hx : b ∉ ex) : ∃ sl, h1.get? b = some { ob with slots := sl } := by
 by_cases hb : b ∈ fs
 ·exact u.slot b ob q n hb hx
 ·exact ⟨ob.slots, u.keep b ob q n hb hx⟩
theorem Un.kept (k : ∀ b u, h.get? b = some u -> h'.get? b = some u) : Un fs ex H H h h' :=
 ⟨fun b ob q _ _ _ => k b ob q, fun b ob q _ _ _ => ⟨ob.slots, k b ob q⟩, fun _ _ _ n _ => n, fun b ob q _ => ⟨ob, k b ob q⟩, fun _ _ q => q, fun _ _ _ q => q, fun _ ps q => ⟨#[], by rw [q]; simp⟩⟩
theorem Un.refl : Un fs ex H H h h := Un.kept fun _ _ q => q
theorem Un.laid (k : ∀ b u, h.get? b = some u -> h'.get? b = some u) (hp : h.objs.size <= a) (hn : H a = none) : Un fs ex H (upd H a o) h h' where
 keep := fun b u q _ _ _ => k b u q
 slot := fun b u q _ _ _ => ⟨u.slots, k b u q⟩
 free := fun b u q n _ => by rw [zaj (Nat.ne_of_lt (Nat.lt_of_lt_of_le (Heap.lt_size q) hp))]; exact n
 there := fun b u q _ => ⟨u, k b u q⟩
 tups := fun b xs q => by rw [zaj (zam q hn)]; exact q
 frzs := fun b u xs q => by rw [zaj (zam q hn)]; exact q
 tbls := fun b ps q => ⟨#[], by rw [zaj (zam q hn), q]; simp⟩
theorem Un.write (mu : Mut (H x)) (he : e = x \/ H e = some (.own x)) (k : ∀ b u, b ≠ e -> h.get? b = some u -> h'.get? b = some u) (heo : ∃ u, h'.get? e = some u) : Un fs ex H (upd H x o) h h' := by
 have hx : ∀ b, H b = none -> b ≠ x := fun b n z => by subst z; rw [n] at mu; exact mu
 have hb : ∀ b, H b = none -> b ≠ e := fun b n z => by
  subst z
  rcases he with r | r
  ·exact hx b n r
  ·rw [n] at r; cases r
 have hm : ∀ b u, H b = some u -> ¬ Mut (some u) -> b ≠ x := fun b u q nm z => by subst z; rw [q] at mu; exact nm mu
 refine ⟨fun b u q n _ _ => k b u (hb b n) q, fun b u q n _ _ => ⟨u.slots, k b u (hb b n) q⟩, fun b u q n _ => by rw [zaj (hx b n)]; exact n, fun b u q _ => ?_,
  fun b xs q => by rw [zaj (hm b _ q fun z => z)]; exact q, fun b u xs q => by rw [zaj (hm b _ q fun z => z)]; exact q, fun b ps q => ⟨#[], by rw [zaj (hm b _ q fun z => z), q]; simp⟩⟩
 by_cases hbe : b = e
 ·subst hbe; exact heo
 ·exact ⟨u, k b u hbe q⟩
end
noncomputable def trk (h : Heap) (H : Hp) : List Addr := (List.range h.objs.size).filter fun a => (H a).isSome
noncomputable def hidT (h : Heap) (H : Hp) : Heap := PySem.W.hideAll h (trk h H)
theorem zlw (h : Heap) (H : Hp) : (hidT h H).objs.size = h.objs.size := PySem.W.hideAll_size _ _
theorem zor {h : Heap} {H : Hp} {b : Addr} {o : Obj} (e : h.get? b = some o) (n : H b = none) : (hidT h H).get? b = some o :=
 PySem.W.hideAll_get _ e fun hm => by
  have q : (H b).isSome = true := (List.mem_filter.mp hm).2
  rw [n] at q; simp at q
theorem zpp {h : Heap} {H : Hp} {b : Addr} {o : Obj} (e : (hidT h H).get? b = some o) : h.get? b = some o /\ H b = none := by
 have e' : h.get? b = some o := PySem.W.of_hideAll (trk h H) e
 refine ⟨e', ?_⟩
 cases q : H b with
 | none => rfl
 | some x =>
  have hm : b ∈ trk h H := List.mem_filter.mpr ⟨List.mem_range.mpr (Heap.lt_size e'), by simp [q]⟩
  have z : (hidT h H).get? b = none := PySem.W.hideAll_none (trk h H) hm
  rw [z] at e; cases e
noncomputable def zqf (g h : Heap) (L : Addr) : List (Addr × Obj) := (List.range h.objs.size).filterMap fun a => if a = L \/ (g.get? a).isSome = true then none else (h.get? a).map fun o => (a, o)
noncomputable def rest (g h : Heap) (L d : Addr) : List (Addr × Obj) := (zqf g h L).filter fun p => decide (p.1 ≠ d)
end L2
namespace L2
open PySem PySem.Spec PyProof.Rows
structure Mod (K : PySem.W.Frag) (mg : Str -> Option Value) (base : Heap) : Prop where
 kin : K.In base
 glob : base.Ns mainGlobals mg
 blt : ∃ mb, base.Ns builtinsNs mb /\ ∀ x : Str, x ≠ "__name__" -> mb x = bootBuiltins x
 nolimit : base.NoLimit
structure Cx where
 prog : Program
 w : World
 K : PySem.W.Frag
 mg : Str -> Option Value
 base : Heap
 A : Around
 N : List Str
 s₀ : Shared
 H₀ : Hp
 env : Env
 outer : List Env
 stack : List Env
 ex : List Addr
 fn : Str -> Bool
 calm : Bool
 pn : List (Addr × Obj)
 xe : Value -> Shared -> Prop
noncomputable def frs (l : List Env) : List Addr := l.filterMap (·.frame)
noncomputable abbrev Cx.fs (X : Cx) : List Addr := frs X.outer
noncomputable def Vis (sc : Scope) (x : Str) : Prop := sc.names.lookup x = some .local \/ sc.names.lookup x = some .cell \/ sc.names.lookup x = some .free
noncomputable def Loc (sc : Scope) (x : Str) : Prop := sc.names.lookup x = some .local \/ sc.names.lookup x = some .cell
noncomputable def Look (env : Env) (h : Heap) (m : Str -> Option Value) (x : Str) (u : Value) : Prop :=
 (env.kindOf x = some .local /\ m x = some u) \/ ((env.kindOf x = some .cell \/ env.kindOf x = some .free) /\ ∃ c, env.cells.lookup x = some c /\ h.IsCell c (some u))
structure Cx.Ok (X : Cx) : Prop where
 mod : Mod X.K X.mg X.base
 kind : X.env.scope.kind = .function
 glob : X.env.globals = mainGlobals
 blt : X.env.builtins = builtinsNs
 above : X.s₀.heap.objs.size <= X.env.locals
 inj : ∀ x y c, X.env.cells.lookup x = some c -> X.env.cells.lookup y = some c -> x = y
 has : ∀ x, (X.env.kindOf x = some .cell \/ X.env.kindOf x = some .free) -> ∃ c, X.env.cells.lookup x = some c
 cab : ∀ x c, X.fn x = true -> X.env.cells.lookup x = some c -> X.s₀.heap.objs.size <= c
 hd : X.calm = true -> X.A.handled = none
 frames : X.A.frames = some X.stack
 stk : X.stack = X.outer \/ (X.stack = X.env :: X.outer /\ X.env.frame = some X.env.locals)
 exf : ∀ b ∈ X.ex, b ≠ X.env.locals /\ ∀ x c, X.env.cells.lookup x = some c -> c ≠ b
 bs : ∀ b o, X.base.get? b = some o -> X.s₀.heap.get? b = some o /\ X.H₀ b = none
 bsz : X.base.objs.size <= X.s₀.heap.objs.size
 noex : ∀ b o, X.base.get? b = some o -> b ∉ X.ex
 exfs : ∀ b ∈ X.ex, b ∉ X.fs
 funs : X.s₀.heap.FunFrames X.base X.outer
 frf : ∀ b ∈ X.fs, X.H₀ b = none
structure Inv (X : Cx) (pins : List (Addr × Obj)) (σ : List (Option V)) (H : Hp) (s : Shared) : Prop where
 ok : X.Ok
 os : s.os = X.s₀.os
 bare : AllBare s.gens
 base : Un X.fs X.ex X.H₀ H X.s₀.heap s.heap
 loc : ∃ m, s.heap.Ns X.env.locals m /\ ∀ (i : Nat) (x : Str) (v : V), X.N[i]? = some x -> σ[i]? = some (some v) -> Vis X.env.scope x -> ∃ u, RelV v u /\ Look X.env s.heap m x u
 cell : ∀ x c, X.env.cells.lookup x = some c -> ∃ v, s.heap.IsCell c v
 free : H X.env.locals = none
 freeC : ∀ x c, X.env.cells.lookup x = some c -> H c = none
 pin : ∀ p ∈ X.pn ++ pins, s.heap.get? p.1 = some p.2 /\ H p.1 = none /\ p.1 ≠ X.env.locals /\ p.1 ∉ X.fs /\ ∀ v, p.2.data ≠ .cell v
 hok : HOk X.prog X.w H s.heap
 len : σ.length = X.N.length
section
variable {X : Cx} {pins : List (Addr × Obj)} {σ : List (Option V)} {H H' : Hp} {s : Shared} {h' : Heap}
theorem Cx.Ok.nofr (ok : X.Ok) {b : Addr} {o : Obj} (e : X.base.get? b = some o) : b ∉ X.fs := fun hb => by
 have := (ok.funs.mem hb).1
 rw [e] at this; cases this
theorem Inv.bs (I : Inv X pins σ H s) : ∀ b o, X.base.get? b = some o -> s.heap.get? b = some o /\ H b = none := fun b o e =>
 ⟨I.base.keep b o (I.ok.bs b o e).1 (I.ok.bs b o e).2 (I.ok.nofr e) (I.ok.noex b o e), I.base.free b o (I.ok.bs b o e).1 (I.ok.bs b o e).2 (I.ok.noex b o e)⟩
theorem Inv.bk (I : Inv X pins σ H s) : ∀ b o, X.base.get? b = some o -> s.heap.get? b = some o := fun b o e => (I.bs b o e).1
theorem Inv.mod (I : Inv X pins σ H s) : Mod X.K X.mg X.base := I.ok.mod
theorem Inv.kIn (I : Inv X pins σ H s) : X.K.In s.heap := I.ok.mod.kin.keeps I.bk
theorem Inv.fr (I : Inv X pins σ H s) : ∃ m, Fr X.base X.env.locals s.heap m :=
 let ⟨m, hn, _⟩ := I.loc
 ⟨m, hn, I.bk, Nat.le_trans I.ok.bsz I.ok.above⟩
theorem Inv.lt (I : Inv X pins σ H s) : X.env.locals < s.heap.objs.size := let ⟨_, hn, _⟩ := I.loc; hn.lt
theorem Inv.sz (I : Inv X pins σ H s) : X.s₀.heap.objs.size <= s.heap.objs.size := Nat.le_trans I.ok.above (Nat.le_of_lt I.lt)
theorem Inv.nofs (I : Inv X pins σ H s) {a : Addr} (h : s.heap.objs.size <= a) : a ∉ X.fs := fun hb => by
 obtain ⟨_, o, ho, _⟩ := I.ok.funs.mem hb
 exact absurd (Nat.lt_of_lt_of_le (Heap.lt_size ho) (Nat.le_trans I.sz h)) (Nat.lt_irrefl _)
theorem Inv.cne (I : Inv X pins σ H s) : ∀ x c, X.env.cells.lookup x = some c -> c ≠ X.env.locals := fun x c e z => by
 obtain ⟨v, o, ho, hd⟩ := I.cell x c e
 obtain ⟨m, ⟨o', es, ep, ho', hd', _⟩, _⟩ := I.loc
 rw [z, ho'] at ho; cases ho; rw [hd'] at hd; cases hd
theorem Inv.funs (I : Inv X pins σ H s) : s.heap.FunFrames X.base X.outer := by
 have all : ∀ (l : List Env), (∀ b ∈ frs l, b ∈ X.fs) -> X.s₀.heap.FunFrames X.base l -> s.heap.FunFrames X.base l := by
  intro l
  induction l with
  | nil => intro _ _; trivial
  | cons env r ih =>
   intro hs hl
   obtain ⟨hk, ⟨L, o, hf, hn, ho, hd⟩, hr⟩ := hl
   have hL : L ∈ X.fs := hs L (by unfold frs; rw [List.filterMap_cons, hf]; exact List.mem_cons_self)
   obtain ⟨sl, e⟩ := I.base.slot L o ho (I.ok.frf L hL) hL fun z => I.ok.exfs L z hL
   exact ⟨hk, ⟨L, _, hf, hn, e, hd⟩, ih (fun b hb => hs b (by unfold frs; rw [List.filterMap_cons, hf]; exact List.mem_cons_of_mem _ hb)) hr⟩
 exact all X.outer (fun _ hb => hb) I.ok.funs
theorem Inv.stack (I : Inv X pins σ H s) : s.heap.FunFrames X.base X.stack := by
 rcases I.ok.stk with e | ⟨e, hf⟩
 ·rw [e]; exact I.funs
 ·rw [e]
  obtain ⟨m, hn, _⟩ := I.loc
  refine .cons (by rw [I.ok.kind]; decide) hf hn ?_ I.funs
  exact Heap.get?_none_of_le (Nat.le_trans I.ok.bsz I.ok.above)
theorem Inv.stkSub (I : Inv X pins σ H s) : ∀ b ∈ frs X.stack, b ∈ X.env.locals :: X.fs := fun b hb => by
 rcases I.ok.stk with e | ⟨e, hf⟩
 ·rw [e] at hb; exact List.mem_cons_of_mem _ hb
 ·rw [e] at hb
  unfold frs at hb
  rw [List.filterMap_cons, hf] at hb
  exact hb
theorem Inv.stkFree (I : Inv X pins σ H s) : ∀ b ∈ frs X.stack, H b = none := fun b hb => by
 rcases List.mem_cons.mp (I.stkSub b hb) with e | hb
 ·rw [e]; exact I.free
 ·obtain ⟨_, o, ho, _⟩ := I.ok.funs.mem hb
  exact I.base.free b o ho (I.ok.frf b hb) fun z => I.ok.exfs b z hb
theorem Inv.step {g' : Array GenState} {t' : Nat} {d' : Drawn} {ch : List Addr} (I : Inv X pins σ H s)
  (hch : ∀ b ∈ ch, (b ∈ X.ex \/ X.s₀.heap.objs.size <= b) /\ b ≠ X.env.locals /\ (∀ x c, X.env.cells.lookup x = some c -> c ≠ b) /\ ∀ p ∈ X.pn ++ pins, p.1 ≠ b)
  (keep : ∀ b o, b ≠ X.env.locals -> b ∉ X.fs -> b ∉ ch -> s.heap.get? b = some o -> H b = none -> h'.get? b = some o)
  (slot : ∀ b o, b ≠ X.env.locals -> b ∈ X.fs -> b ∉ ch -> s.heap.get? b = some o -> H b = none -> ∃ sl, h'.get? b = some { o with slots := sl }) (free : ∀ b o, b ∉ ch -> s.heap.get? b = some o -> H b = none -> H' b = none)
  (there : ∀ b o, b ∉ ch -> s.heap.get? b = some o -> ∃ o', h'.get? b = some o')
  (tups : ∀ b xs, H b = some (.tup xs) -> H' b = some (.tup xs)) (frzs : ∀ b o u, H b = some (.frz o u) -> H' b = some (.frz o u)) (tbls : ∀ b ps, H b = some (.tbl ps) -> ∃ more, H' b = some (.tbl (ps ++ more)))
  (ns : ∀ m, s.heap.Ns X.env.locals m -> h'.Ns X.env.locals m) (hok : HOk X.prog X.w H' h') (hg : AllBare g') :
  Inv X pins σ H' { s with heap := h', gens := g', drawn := d', toks := t' } := by
 have neL : ∀ b o, X.s₀.heap.get? b = some o -> b ≠ X.env.locals := fun b o e => Nat.ne_of_lt (Nat.lt_of_lt_of_le (Heap.lt_size e) I.ok.above)
 have neC : ∀ b o, X.s₀.heap.get? b = some o -> b ∉ X.ex -> b ∉ ch := fun b o e hx hb => by
  rcases (hch b hb).1 with z | z
  ·exact hx z
  ·exact absurd (Nat.lt_of_lt_of_le (Heap.lt_size e) z) (Nat.lt_irrefl _)
 have cellK : ∀ x c, X.env.cells.lookup x = some c -> ∀ v, s.heap.IsCell c v -> h'.IsCell c v := fun x c e v ⟨o, ho, hd⟩ => by
  have nch : c ∉ ch := fun z => (hch c z).2.2.1 x c e rfl
  by_cases hc : c ∈ X.fs
  ·obtain ⟨sl, q⟩ := slot c o (I.cne x c e) hc nch ho (I.freeC x c e)
   exact ⟨_, q, hd⟩
  ·exact ⟨o, keep c o (I.cne x c e) hc nch ho (I.freeC x c e), hd⟩
 refine ⟨I.ok, I.os, hg, ⟨fun b o e n hb hx => ?_, fun b o e n hb hx => ?_, fun b o e n hx => ?_, fun b o e hx => ?_, fun b xs e => tups b xs (I.base.tups b xs e), fun b o xs e => frzs b o xs (I.base.frzs b o xs e), fun b ps e => ?_⟩, ?_, fun x c e => ?_, ?_, fun x c e => ?_, fun p hp => ?_, hok, I.len⟩
 ·exact keep b o (neL b o e) hb (neC b o e hx) (I.base.keep b o e n hb hx) (I.base.free b o e n hx)
 ·obtain ⟨sl, e1⟩ := I.base.slot b o e n hb hx
  obtain ⟨sl', e2⟩ := slot b _ (neL b o e) hb (neC b o e hx) e1 (I.base.free b o e n hx)
  exact ⟨sl', e2⟩
 ·obtain ⟨o', e1⟩ := I.base.there b o e hx
  exact free b o' (neC b o e hx) e1 (I.base.free b o e n hx)
 ·obtain ⟨o', e1⟩ := I.base.there b o e hx
  exact there b o' (neC b o e hx) e1
 ·obtain ⟨m1, e1⟩ := I.base.tbls b ps e
  obtain ⟨m2, e2⟩ := tbls b _ e1
  exact ⟨m1 ++ m2, by rw [e2, Array.append_assoc]⟩
 ·obtain ⟨m, hn, hl⟩ := I.loc
  refine ⟨m, ns m hn, fun i x v e1 e2 e3 => ?_⟩
  obtain ⟨u, r, l⟩ := hl i x v e1 e2 e3
  refine ⟨u, r, ?_⟩
  rcases l with l | ⟨k, c, e, z⟩
  ·exact .inl l
  ·exact .inr ⟨k, c, e, cellK x c e _ z⟩
 ·obtain ⟨v, z⟩ := I.cell x c e
  exact ⟨v, cellK x c e v z⟩
 ·obtain ⟨m, ⟨o, _, _, ho, _⟩, _⟩ := I.loc
  exact free _ o (fun z => (hch _ z).2.1 rfl) ho I.free
 ·obtain ⟨v, o, ho, hd⟩ := I.cell x c e
  exact free c o (fun z => (hch c z).2.2.1 x c e rfl) ho (I.freeC x c e)
 ·obtain ⟨e, n, ne, nf, d⟩ := I.pin p hp
  have nch : p.1 ∉ ch := fun z => (hch p.1 z).2.2.2 p hp rfl
  exact ⟨keep p.1 p.2 ne nf nch e n, free p.1 p.2 nch e n, ne, nf, d⟩
theorem Inv.un {t' : Nat} (I : Inv X pins σ H s) (u : Un X.fs [] H H' s.heap h') (hok : HOk X.prog X.w H' h') : Inv X pins σ H' { s with heap := h', toks := t' } := by
 obtain ⟨m, ⟨o, es, ep, ho, r⟩, _⟩ := id I.loc
 obtain ⟨sl, hL⟩ := u.any ho I.free (by simp)
 exact I.step (g':=s.gens) (d':=s.drawn) (ch:=[]) (fun _ z => nomatch z) (fun b o _ hb _ e n => u.keep b o e n hb (by simp)) (fun b o _ hb _ e n => u.slot b o e n hb (by simp)) (fun b o _ e n => u.free b o e n (by simp)) (fun b o _ e => u.there b o e (by simp)) u.tups u.frzs u.tbls (fun m' hm => by
  obtain ⟨o', es', ep', ho', r'⟩ := hm
  rw [ho] at ho'; cases ho'
  exact ⟨_, es', ep', hL, r'⟩) hok I.bare
theorem Inv.call {g' : Array GenState} {t' : Nat} {d' : Drawn} {ch : List Addr} (I : Inv X pins σ H s) (u : Un (frs X.stack) ch H H' s.heap h') (hok : HOk X.prog X.w H' h') (hg : AllBare g')
  (hch : ∀ b ∈ ch, (b ∈ X.ex \/ X.s₀.heap.objs.size <= b) /\ b ≠ X.env.locals /\ (∀ x c, X.env.cells.lookup x = some c -> c ≠ b) /\ ∀ p ∈ X.pn ++ pins, p.1 ≠ b) :
  Inv X pins σ H' { s with heap := h', gens := g', drawn := d', toks := t' } := by
 obtain ⟨m, ⟨o, es, ep, ho, r⟩, _⟩ := id I.loc
 obtain ⟨sl, hL⟩ := u.any ho I.free fun z => (hch _ z).2.1 rfl
 exact I.step (ch:=ch) hch (fun b o hL hb hc e n => u.keep b o e n (fun z => (List.mem_cons.mp (I.stkSub b z)).elim hL hb) hc) (fun b o _ _ hc e n => u.any e n hc) (fun b o hc e n => u.free b o e n hc) (fun b o hc e => u.there b o e hc) u.tups u.frzs u.tbls (fun m' hm => by
  obtain ⟨o', es', ep', ho', r'⟩ := hm
  rw [ho] at ho'; cases ho'
  exact ⟨_, es', ep', hL, r'⟩) hok hg
theorem Inv.turned {t' : Nat} {it : Addr} (I : Inv X pins σ H s) (k : ∀ b o, b ≠ it -> s.heap.get? b = some o -> h'.get? b = some o) (hn : H it = none) (hL : it ≠ X.env.locals)
  (h1 : it ∈ X.ex \/ X.s₀.heap.objs.size <= it) (h2 : ∀ x c, X.env.cells.lookup x = some c -> c ≠ it) (h3 : ∀ p ∈ X.pn ++ pins, p.1 ≠ it) : Inv X pins σ H { s with heap := h', toks := t' } := by
 have nit : ∀ b u, H b = some u -> b ≠ it := fun b u e z => by rw [z, hn] at e; cases e
 refine I.step (g':=s.gens) (d':=s.drawn) (ch:=[it]) (fun b hb => ?_) (fun b o _ _ hc e _ => k b o (fun z => hc (by simp [z])) e) (fun b o _ _ hc e _ => ⟨o.slots, k b o (fun z => hc (by simp [z])) e⟩) (fun _ _ _ _ n => n)
  (fun b o hc e => ⟨o, k b o (fun z => hc (by simp [z])) e⟩) (fun _ _ e => e) (fun _ _ _ e => e) (fun b ps e => ⟨#[], by rw [e]; simp⟩) (fun m hm => ?_) (fun b u e => ?_) I.bare
 ·have e : b = it := by simpa using hb
  subst e
  exact ⟨h1, hL, h2, h3⟩
 ·obtain ⟨o, es, ep, ho, r⟩ := hm
  exact ⟨o, es, ep, k _ o (Ne.symm hL) ho, r⟩
 ·refine (I.hok b u e).stay (fun c v hc q => k c v ?_ q) (fun _ q => q) fun _ _ q => q
  rcases hc with z | z
  ·rw [z]; exact nit b u e
  ·exact nit c _ z
theorem Inv.tok (I : Inv X pins σ H s) (t : Nat) : Inv X pins σ H { s with toks := t } := I.un (h':=s.heap) (t':=t) Un.refl I.hok
theorem Inv.kept {t' : Nat} (I : Inv X pins σ H s) (k : ∀ b u, s.heap.get? b = some u -> h'.get? b = some u) : Inv X pins σ H { s with heap := h', toks := t' } := I.un (Un.kept k) (I.hok.kept k)
theorem Inv.laid {a : Addr} {o : HO} {t' : Nat} (I : Inv X pins σ H s) (k : ∀ b u, s.heap.get? b = some u -> h'.get? b = some u) (hp : s.heap.objs.size <= a) (new : zdp X.prog X.w (upd H a o) h' a o) :
  Inv X pins σ (upd H a o) { s with heap := h', toks := t' } := I.un (Un.laid k hp (I.hok.fresh hp)) (I.hok.laid k hp new)
theorem Inv.write {x e : Addr} {o : HO} {t' : Nat} (I : Inv X pins σ H s) (mu : Mut (H x)) (he : e = x \/ H e = some (.own x)) (k : ∀ b u, b ≠ e -> s.heap.get? b = some u -> h'.get? b = some u) (heo : ∃ u, h'.get? e = some u)
  (new : zdp X.prog X.w (upd H x o) h' x o) : Inv X pins σ (upd H x o) { s with heap := h', toks := t' } := I.un (Un.write mu he k heo) (I.hok.write mu he k heo new)
theorem Inv.weak {σ' : List (Option V)} (I : Inv X pins σ H s) (hl : σ'.length = σ.length) (w : ∀ (i : Nat) v, σ'[i]? = some (some v) -> σ[i]? = some (some v)) : Inv X pins σ' H s :=
 ⟨I.ok, I.os, I.bare, I.base, let ⟨m, hn, hl'⟩ := I.loc; ⟨m, hn, fun i x v e1 e2 e3 => hl' i x v e1 (w i v e2) e3⟩, I.cell, I.free, I.freeC, I.pin, I.hok, hl.trans I.len⟩
theorem Inv.pins_of {pins' : List (Addr × Obj)} (I : Inv X pins σ H s) (h : ∀ p ∈ pins', s.heap.get? p.1 = some p.2 /\ H p.1 = none /\ p.1 ≠ X.env.locals /\ p.1 ∉ X.fs /\ ∀ v, p.2.data ≠ .cell v) : Inv X pins' σ H s :=
 ⟨I.ok, I.os, I.bare, I.base, I.loc, I.cell, I.free, I.freeC, fun p hp => (List.mem_append.mp hp).elim (fun z => I.pin p (List.mem_append_left _ z)) (h p), I.hok, I.len⟩
theorem zhb {N : List Str} (hN : N.Nodup) {i j : Nat} {x : Str} (a : N[i]? = some x) (b : N[j]? = some x) : i = j := by
 obtain ⟨h1, e1⟩ := List.getElem?_eq_some_iff.mp a
 obtain ⟨h2, e2⟩ := List.getElem?_eq_some_iff.mp b
 exact (List.getElem_inj hN).mp (e1.trans e2.symm)
theorem zni {M : Model} {A : Around} {E : Value -> Shared -> Prop} {i : Nat} {x : Str} {v : V} {u : Value} {Q : Unit -> Shared -> Prop} (I : Inv X pins σ H s) (hN : X.N.Nodup) (hi : X.N[i]? = some x) (hx : Loc X.env.scope x) (r : RelV v u)
  (h : ∀ s', Inv X pins (σ.set i (some v)) H s' -> (∃ a, Heap.SameBut a s.heap s'.heap /\ (a = X.env.locals \/ X.env.cells.lookup x = some a)) -> Q () s') (hf : X.fn x = true \/ X.env.scope.names.lookup x = some .local := by first | exact .inl rfl | exact .inr rfl | assumption) : wpAny M A (storeName X.env x u) Q E s := by
 obtain ⟨m, hn, hl⟩ := id I.loc
 have hcls : (X.env.scope.kind == .class || (X.env.scope.kind == .module && X.env.locals != X.env.globals)) = false := by rw [I.ok.kind]; rfl
 have hiσ : i < σ.length := by rw [I.len]; exact (List.getElem?_eq_some_iff.mp hi).1
 have cne := I.cne
 have tracked : ∀ {a : Addr} {h' : Heap}, (∃ o, s.heap.get? a = some o /\ H a = none) -> Heap.SameBut a s.heap h' -> HOk X.prog X.w H h' := fun {a h'} ha hs b ob e => by
  obtain ⟨_, _, hfree⟩ := ha
  refine (I.hok b ob e).stay (fun c w' hc q => (hs.2 c ?_).trans q) (fun _ q => q) fun _ _ q => q
  rintro rfl
  rcases hc with rfl | hc
  ·rw [hfree] at e; cases e
  ·rw [hfree] at hc; cases hc
 rcases hx with hk | hk
 ·refine wpAny_storeName_local hk hn (fun h' hn' hs => ?_) hcls
  obtain ⟨oL, _, _, hoL, _⟩ := id hn
  refine h _ ⟨I.ok, I.os, I.bare, ⟨fun b o e n hb hx => ?_, fun b o e n hb hx => ?_, I.base.free, fun b o e hx => ?_, I.base.tups, I.base.frzs, I.base.tbls⟩, ⟨_, hn', fun j y v' e1 e2 e3 => ?_⟩, fun y c e => ?_, I.free, I.freeC, fun p hp => ?_, tracked ⟨oL, hoL, I.free⟩ hs, by simpa using I.len⟩ ⟨_, hs, .inl rfl⟩
  ·exact (hs.2 b (Nat.ne_of_lt (Nat.lt_of_lt_of_le (Heap.lt_size e) I.ok.above))).trans (I.base.keep b o e n hb hx)
  ·obtain ⟨sl, e1⟩ := I.base.slot b o e n hb hx
   exact ⟨sl, (hs.2 b (Nat.ne_of_lt (Nat.lt_of_lt_of_le (Heap.lt_size e) I.ok.above))).trans e1⟩
  ·obtain ⟨o', e1⟩ := I.base.there b o e hx
   exact ⟨o', (hs.2 b (Nat.ne_of_lt (Nat.lt_of_lt_of_le (Heap.lt_size e) I.ok.above))).trans e1⟩
  ·by_cases hj : j = i
   ·subst hj
    rw [hi] at e1; cases e1
    rw [List.getElem?_set_self hiσ] at e2
    cases e2
    exact ⟨u, r, .inl ⟨hk, by simp⟩⟩
   ·rw [List.getElem?_set_ne (Ne.symm hj)] at e2
    obtain ⟨u', r', q⟩ := hl j y v' e1 e2 e3
    refine ⟨u', r', ?_⟩
    rcases q with ⟨k, e⟩ | ⟨k, c, e, z⟩
    ·refine .inl ⟨k, ?_⟩
     have : y ≠ x := fun e => hj (zhb hN e1 (e ▸ hi))
     simp [this, e]
    ·exact .inr ⟨k, c, e, z.sameBut hs (cne y c e)⟩
  ·obtain ⟨w', z⟩ := I.cell y c e
   exact ⟨w', z.sameBut hs (cne y c e)⟩
  ·obtain ⟨e, n, ne, nf, d⟩ := I.pin p hp
   exact ⟨(hs.2 p.1 ne).trans e, n, ne, nf, d⟩
 ·have hfn : X.fn x = true := by
   rcases hf with z | z
   ·exact z
   ·rw [z] at hk; cases hk
  obtain ⟨c, hc⟩ := I.ok.has x (.inl hk)
  obtain ⟨w', z⟩ := I.cell x c hc
  refine wpAny_storeName_cell I.ok.kind hk hc z (fun h' hc' hs => ?_)
  obtain ⟨oc, hoc, hocd⟩ := id z
  refine h { s with heap := h' } ⟨I.ok, I.os, I.bare, ⟨fun b o e n hb hx => ?_, fun b o e n hb hx => ?_, I.base.free, fun b o e hx => ?_, I.base.tups, I.base.frzs, I.base.tbls⟩, ⟨m, hn.sameBut hs (Ne.symm (cne x c hc)), fun j y v' e1 e2 e3 => ?_⟩, fun y c' e => ?_, I.free, I.freeC, fun p hp => ?_, tracked ⟨oc, hoc, I.freeC x c hc⟩ hs, by simpa using I.len⟩ ⟨c, hs, .inr hc⟩
  ·exact (hs.2 b (Nat.ne_of_lt (Nat.lt_of_lt_of_le (Heap.lt_size e) (I.ok.cab x c hfn hc)))).trans (I.base.keep b o e n hb hx)
  ·obtain ⟨sl, e1⟩ := I.base.slot b o e n hb hx
   exact ⟨sl, (hs.2 b (Nat.ne_of_lt (Nat.lt_of_lt_of_le (Heap.lt_size e) (I.ok.cab x c hfn hc)))).trans e1⟩
  ·obtain ⟨o', e1⟩ := I.base.there b o e hx
   exact ⟨o', (hs.2 b (Nat.ne_of_lt (Nat.lt_of_lt_of_le (Heap.lt_size e) (I.ok.cab x c hfn hc)))).trans e1⟩
  ·by_cases hj : j = i
   ·subst hj
    rw [hi] at e1; cases e1
    rw [List.getElem?_set_self hiσ] at e2
    cases e2
    exact ⟨u, r, .inr ⟨.inl hk, c, hc, hc'⟩⟩
   ·rw [List.getElem?_set_ne (Ne.symm hj)] at e2
    obtain ⟨u', r', q⟩ := hl j y v' e1 e2 e3
    refine ⟨u', r', ?_⟩
    rcases q with q | ⟨k, c', e, z'⟩
    ·exact .inl q
    ·refine .inr ⟨k, c', e, z'.sameBut hs ?_⟩
     rintro rfl
     exact hj (zhb hN e1 (I.ok.inj _ _ _ e hc ▸ hi))
  ·by_cases hcc : c' = c
   ·subst hcc; exact ⟨_, hc'⟩
   ·obtain ⟨w2, z2⟩ := I.cell y c' e
    exact ⟨w2, z2.sameBut hs hcc⟩
  ·obtain ⟨e, n, ne, nf, d⟩ := I.pin p hp
   refine ⟨(hs.2 p.1 ?_).trans e, n, ne, nf, d⟩
   intro q
   rw [q, hoc] at e
   have q' : oc = p.2 := Option.some.inj e
   exact d w' (by rw [<- q']; exact hocd)
theorem ze8 {M : Model} {A : Around} {E : Value -> Shared -> Prop} {i : Nat} {x : Str} {v : V} {u : Value} {Q : Unit -> Shared -> Prop} (I : Inv X pins σ H s) (hN : X.N.Nodup) (hi : X.N[i]? = some x) (hx : Loc X.env.scope x) (r : RelV v u)
  (h : ∀ s', Inv X pins (σ.set i (some v)) H s' -> Q () s') (hf : X.fn x = true \/ X.env.scope.names.lookup x = some .local := by first | exact .inl rfl | exact .inr rfl | assumption) : wpAny M A (storeName X.env x u) Q E s :=
 zni I hN hi hx r (fun s' I' _ => h s' I') hf
theorem Inv.call' {s' : Shared} {ch : List Addr} (I : Inv X pins σ H s) (ho : s'.os = s.os) (u : Un (frs X.stack) ch H H' s.heap s'.heap) (hok : HOk X.prog X.w H' s'.heap) (hg : AllBare s'.gens)
  (hch : ∀ b ∈ ch, (b ∈ X.ex \/ X.s₀.heap.objs.size <= b) /\ b ≠ X.env.locals /\ (∀ x c, X.env.cells.lookup x = some c -> c ≠ b) /\ ∀ p ∈ X.pn ++ pins, p.1 ≠ b) : Inv X pins σ H' s' := by
 obtain ⟨h', g', d', t', o'⟩ := s'
 have e : o' = s.os := ho
 subst e
 exact I.call (g':=g') (t':=t') (d':=d') u hok hg hch
end
noncomputable abbrev XK := Value -> Option Addr -> Hp -> Prop
noncomputable abbrev St := List (Option V)
noncomputable abbrev VK := V -> Hp -> Prop
noncomputable abbrev TE := St -> Hp -> VK -> Prop
noncomputable abbrev TT := St -> Hp -> (Bool -> Hp -> Prop) -> Prop
noncomputable abbrev TA := St -> Hp -> (List V -> Hp -> Prop) -> Prop
structure Ends where
 nx : St -> Hp -> Prop
 rt : VK
 bk : St -> Hp -> Prop := fun _ _ => False
 ct : St -> Hp -> Prop := fun _ _ => False
noncomputable abbrev TS := Ends -> St -> Hp -> Prop
noncomputable def EP (X : Cx) (pins : List (Addr × Obj)) (σ : St) (Q : VK) (u : Value) (s' : Shared) : Prop := ∃ v H', Inv X pins σ H' s' /\ RelV v u /\ Q v H'
noncomputable def TP (X : Cx) (pins : List (Addr × Obj)) (σ : St) (Q : Bool -> Hp -> Prop) (b : Bool) (s' : Shared) : Prop := ∃ H', Inv X pins σ H' s' /\ Q b H'
noncomputable def AP (X : Cx) (pins : List (Addr × Obj)) (σ : St) (Q : List V -> Hp -> Prop) (us : List Value) (s' : Shared) : Prop := ∃ vs H', Inv X pins σ H' s' /\ Vals vs us /\ Q vs H'
noncomputable def SP (X : Cx) (pins : List (Addr × Obj)) (D : Ends) (f : Flow) (s' : Shared) : Prop :=
 match f with
 | .next => ∃ σ' H', Inv X pins σ' H' s' /\ D.nx σ' H'
 | .brk => ∃ σ' H', Inv X pins σ' H' s' /\ D.bk σ' H'
 | .cont => ∃ σ' H', Inv X pins σ' H' s' /\ D.ct σ' H'
 | .ret u => ∃ v σ' H', Inv X pins σ' H' s' /\ RelV v u /\ D.rt v H'
noncomputable def PE (X : Cx) (e : Expr) (t : TE) : Prop :=
 ∀ (pins : List (Addr × Obj)) (s : Shared) (σ : St) (H : Hp) (Q : VK), Inv X pins σ H s -> t σ H Q -> wpAny (model X.prog X.w) X.A (eval e X.env) (EP X pins σ Q) X.xe s
noncomputable def PT (X : Cx) (e : Expr) (t : TT) : Prop :=
 ∀ (pins : List (Addr × Obj)) (s : Shared) (σ : St) (H : Hp) (Q : Bool -> Hp -> Prop), Inv X pins σ H s -> t σ H Q -> wpAny (model X.prog X.w) X.A (isTrue e X.env (eval e X.env)) (TP X pins σ Q) X.xe s
noncomputable def PW (X : Cx) (e : Expr) (t : TT) : Prop :=
 ∀ (whole : Sem Value) (pins : List (Addr × Obj)) (s : Shared) (σ : St) (H : Hp) (Q : Bool -> Hp -> Prop), Inv X pins σ H s -> t σ H Q -> wpAny (model X.prog X.w) X.A (isTrue e X.env whole) (TP X pins σ Q) X.xe s
theorem PW.pt {X : Cx} {e : Expr} {t : TT} (h : PW X e t) : PT X e t := h _
noncomputable def PA (X : Cx) (es : List Expr) (t : TA) : Prop :=
 ∀ (pos : Pos) (pins : List (Addr × Obj)) (s : Shared) (σ : St) (H : Hp) (Q : List V -> Hp -> Prop), Inv X pins σ H s -> t σ H Q -> wpAny (model X.prog X.w) X.A (spliced (backTo pos (starEach es X.env))) (AP X pins σ Q) X.xe s
noncomputable def PS (X : Cx) (st : Stmt) (t : TS) : Prop :=
 ∀ (pins : List (Addr × Obj)) (s : Shared) (σ : St) (H : Hp) (D : Ends), Inv X pins σ H s -> t D σ H -> wpAny (model X.prog X.w) X.A (exec st X.env) (SP X pins D) X.xe s
noncomputable def PSs (X : Cx) (st : List Stmt) (t : TS) : Prop :=
 ∀ (pins : List (Addr × Obj)) (s : Shared) (σ : St) (H : Hp) (D : Ends), Inv X pins σ H s -> t D σ H -> wpAny (model X.prog X.w) X.A (execs st X.env) (SP X pins D) X.xe s
theorem thn {α : Type} {t : Sem α} {Q Q' : α -> Shared -> Prop} {M : Model} {A : Around} {E : Value -> Shared -> Prop} {s : Shared} (h : wpAny M A t Q E s) (hQ : ∀ a s, Q a s -> Q' a s) : wpAny M A t Q' E s := wpAny_mono h hQ fun _ _ x => x
end L2
namespace L2
open PySem PySem.Spec PyProof.Rows
section
variable {X : Cx}
noncomputable def tVar (i : Nat) : TE := fun σ H Q => ∃ v, σ[i]? = some (some v) /\ Q v H
noncomputable def tC (v : V) : TE := fun _ H Q => Q v H
theorem zr8 {i : Nat} {x : Str} {pos : Pos} (hN : X.N[i]? = some x) (hv : Vis X.env.scope x) (hd : (x == ("__debug__" : Str)) = false := by decide) (hcd : (x == ("__classdict__" : Str)) = false := by decide) : PE X (.Name x pos) (tVar i) := by
 intro pins s σ H Q I h
 obtain ⟨v, e, h⟩ := h
 obtain ⟨m, hn, hl⟩ := I.loc
 obtain ⟨u, r, l⟩ := hl i x v hN e hv
 have fin : EP X pins σ Q u s := ⟨v, H, I, r, h⟩
 rcases l with ⟨hk, hm⟩ | ⟨hk, c, hc, hcell⟩
 ·exact wpAny_Name (wpAny_loadName_local I.ok.kind hk hn hm fin) hd
 ·rcases hk with hk | hk
  ·exact wpAny_Name (wpAny_loadName_cell I.ok.kind hk hc hcell fin) hd
  ·exact wpAny_Name (wpAny_loadName_free I.ok.kind hk hc hcell fin hcd) hd
theorem zas {i j pos} : PE X (.Constant (.int i) j pos) (tC (.int i)) := fun _ _ _ H _ I h => wpAny_Constant_int ⟨.int i, H, I.tok _, ⟨_, rfl⟩, h⟩
theorem zij {b j pos} : PE X (.Constant (.bool b) j pos) (tC (.bl b)) := fun _ _ _ H _ I h => Constant_bool ⟨.bl b, H, I, rfl, h⟩
theorem zre {j pos} : PE X (.Constant .none j pos) (tC .non) := fun _ _ _ H _ I h => Constant_none ⟨.non, H, I, rfl, h⟩
theorem zal {x j pos} : PE X (.Constant (.str x) j pos) (tC (.str x)) := fun _ _ _ H _ I h => Calls.Constant_str ⟨.str x, H, I.tok _, ⟨_, rfl⟩, h⟩
noncomputable def Gl (X : Cx) (x : Str) : Prop := X.env.kindOf x = some .globalImplicit
theorem zc2 {E : Value -> Shared -> Prop} {pins : List (Addr × Obj)} {s : Shared} {σ : St} {H : Hp} {x : Str} {u : Value} {pos : Pos} {Q : Value -> Shared -> Prop} (I : Inv X pins σ H s) (hg : Gl X x) (hm : X.mg x = some u) (h : Q u s)
  (hd : (x == ("__debug__" : Str)) = false := by decide) : wpAny (model X.prog X.w) X.A (eval (.Name x pos) X.env) Q E s :=
 Calls.Name_function_global I.ok.kind hg (Calls.loadGlobal_global (by rw [I.ok.glob]; exact I.mod.glob.keeps I.bk) hm h) hd
theorem zjc {E : Value -> Shared -> Prop} {pins : List (Addr × Obj)} {s : Shared} {σ : St} {H : Hp} {x : Str} {u : Value} {pos : Pos} {Q : Value -> Shared -> Prop} (I : Inv X pins σ H s) (hg : Gl X x) (hm : X.mg x = none) (hv : bootBuiltins x = some u) (h : Q u s)
  (hn : x ≠ "__name__" := by decide) (hd : (x == ("__debug__" : Str)) = false := by decide) : wpAny (model X.prog X.w) X.A (eval (.Name x pos) X.env) Q E s := by
 obtain ⟨mb, h1, h2⟩ := I.mod.blt
 exact Calls.Name_function_global I.ok.kind hg (Calls.loadGlobal_builtin (by rw [I.ok.glob]; exact I.mod.glob.keeps I.bk) hm (by rw [I.ok.blt]; exact h1.keeps I.bk) ((h2 x hn).trans hv) h) hd
theorem zcp {x : Str} {v : V} {u : Value} {pos : Pos} (hg : Gl X x) (hm : X.mg x = some u) (r : RelV v u) (hd : (x == ("__debug__" : Str)) = false := by decide) : PE X (.Name x pos) (tC v) :=
 fun _ _ _ H _ I h => zc2 I hg hm ⟨v, H, I, r, h⟩ hd
theorem zj6 {x : Str} {v : V} {u : Value} {pos : Pos} (hg : Gl X x) (hm : X.mg x = none) (hv : bootBuiltins x = some u) (r : RelV v u) (hn : x ≠ "__name__" := by decide) (hd : (x == ("__debug__" : Str)) = false := by decide) : PE X (.Name x pos) (tC v) :=
 fun _ _ _ H _ I h => zjc I hg hm hv ⟨v, H, I, r, h⟩ hn hd
variable {a b : Expr} {ta tb : TE} {pos : Pos}
noncomputable def tB (t : TE) : TT := fun σ H Q => t σ H fun x H1 => ∃ c, x = .bl c /\ Q c H1
theorem zds {e : Expr} {t : TE} (h : PE X e t) (he : ∀ whole, isTrue e X.env whole = (do let v <- whole; standAt e.pos; holding [v] (truthy v)) := by intro _; rfl) : PT X e (tB t) := by
 intro pins s σ H Q I hw
 refine isTrue_plain (thn (h pins s σ H _ I hw) fun v s1 hz9 => ?_) (he _)
 obtain ⟨x, H1, I1, r1, q1⟩ := hz9
 obtain ⟨d, rfl, q⟩ := q1
 cases r1
 exact wpAny_truthy_bool ⟨H1, I1, q⟩
variable {tA tB' : TT} {rest : List Expr}
noncomputable def tAnd (t u : TT) : TT := fun σ H Q => t σ H fun c H1 => if c = true then u σ H1 Q else Q false H1
noncomputable def tOr (t u : TT) : TT := fun σ H Q => t σ H fun c H1 => if c = true then Q true H1 else u σ H1 Q
noncomputable def tNot (t : TT) : TT := fun σ H Q => t σ H fun c H1 => Q (!c) H1
theorem znp (ha : PT X a tA) : PW X (.BoolOp .And [a] pos) tA := by
 intro wh pins s σ H Q I h
 refine isTrue_and (thn (ha pins s σ H Q I h) fun c s1 e => ?_)
 cases c with
 | true => exact isTrue_and_nil e
 | false => exact e
theorem zjl (ha : PT X a tA) : PW X (.BoolOp .Or [a] pos) tA := by
 intro wh pins s σ H Q I h
 refine isTrue_or (thn (ha pins s σ H Q I h) fun c s1 e => ?_)
 cases c with
 | false => exact isTrue_or_nil e
 | true => exact e
theorem znr (ha : PT X a tA) (hb : PW X (.BoolOp .And (b :: rest) pos) tB') : PW X (.BoolOp .And (a :: b :: rest) pos) (tAnd tA tB') := by
 intro wh pins s σ H Q I h
 refine isTrue_and (thn (ha pins s σ H _ I h) fun c s1 hz9 => ?_)
 obtain ⟨H1, I1, q1⟩ := hz9
 cases c with
 | true => exact hb wh pins s1 σ H1 Q I1 q1
 | false => exact ⟨H1, I1, q1⟩
theorem zj3 (ha : PT X a tA) (hb : PW X (.BoolOp .Or (b :: rest) pos) tB') : PW X (.BoolOp .Or (a :: b :: rest) pos) (tOr tA tB') := by
 intro wh pins s σ H Q I h
 refine isTrue_or (thn (ha pins s σ H _ I h) fun c s1 hz9 => ?_)
 obtain ⟨H1, I1, q1⟩ := hz9
 cases c with
 | true => exact ⟨H1, I1, q1⟩
 | false => exact hb wh pins s1 σ H1 Q I1 q1
theorem zg0 (ha : PT X a tA) : PT X (.UnaryOp .Not a pos) (tNot tA) := by
 intro pins s σ H Q I h
 exact isTrue_not (ha pins s σ H (fun c H1 => Q (!c) H1) I h)
noncomputable def zq6 (ta tb : TE) : TE := fun σ H Q => ta σ H fun x H1 => ∃ c, x = .bl c /\ if c = true then tb σ H1 Q else Q (.bl false) H1
noncomputable def tOrV (ta tb : TE) : TE := fun σ H Q => ta σ H fun x H1 => ∃ c, x = .bl c /\ if c = true then Q (.bl true) H1 else tb σ H1 Q
noncomputable def zrt (ta : TE) : TE := fun σ H Q => ta σ H fun x H1 => ∃ c, x = .bl c /\ Q (.bl (!c)) H1
theorem zk3 {op} {t : TE} (h : PE X a t) : PE X (.BoolOp op [a] pos) t := fun pins s σ H Q I hw => BoolOp_one (h pins s σ H Q I hw)
theorem znf (ha : PE X a ta) (hb : PE X (.BoolOp .And (b :: rest) pos) tb) : PE X (.BoolOp .And (a :: b :: rest) pos) (zq6 ta tb) := by
 intro pins s σ H Q I h
 refine BoolOp_and (thn (ha pins s σ H _ I h) fun v s1 hz9 => ?_)
 obtain ⟨x, H1, I1, r1, q1⟩ := hz9
 obtain ⟨c, rfl, q1⟩ := q1
 cases r1
 refine wpAny_truthy_bool ?_
 cases c with
 | true => exact hb pins s1 σ H1 Q I1 q1
 | false => exact ⟨.bl false, H1, I1, rfl, q1⟩
theorem zsn (ha : PE X a ta) (hb : PE X (.BoolOp .Or (b :: rest) pos) tb) : PE X (.BoolOp .Or (a :: b :: rest) pos) (tOrV ta tb) := by
 intro pins s σ H Q I h
 refine BoolOp_or (thn (ha pins s σ H _ I h) fun v s1 hz9 => ?_)
 obtain ⟨x, H1, I1, r1, q1⟩ := hz9
 obtain ⟨c, rfl, q1⟩ := q1
 cases r1
 refine wpAny_truthy_bool ?_
 cases c with
 | false => exact hb pins s1 σ H1 Q I1 q1
 | true => exact ⟨.bl true, H1, I1, rfl, q1⟩
theorem zq8 (ha : PE X a ta) : PE X (.UnaryOp .Not a pos) (zrt ta) := by
 intro pins s σ H Q I h
 refine UnaryOp_ (thn (ha pins s σ H _ I h) fun v s1 hz9 => ?_)
 obtain ⟨x, H1, I1, r1, q1⟩ := hz9
 obtain ⟨c, rfl, q1⟩ := q1
 cases r1
 exact not_of (wpAny_truthy_bool ⟨.bl (!c), H1, I1, rfl, q1⟩)
noncomputable def tIf (t : TT) (ta tb : TE) : TE := fun σ H Q => t σ H fun c H1 => if c = true then ta σ H1 Q else tb σ H1 Q
theorem zo0 {c : Expr} (hc : PT X c tA) (ha : PE X a ta) (hb : PE X b tb) : PE X (.IfExp c a b pos) (tIf tA ta tb) := by
 intro pins s σ H Q I h
 refine wpAny_IfExp (thn (hc pins s σ H _ I h) fun d s1 hz9 => ?_)
 obtain ⟨H1, I1, q1⟩ := hz9
 cases d with
 | true => exact ha pins s1 σ H1 Q I1 q1
 | false => exact hb pins s1 σ H1 Q I1 q1
end
end L2
namespace L2
open PySem PySem.Spec PyProof.Rows
noncomputable def SqL (K : PySem.W.Frag) (H : Hp) (a : Addr) (xs : List V) : Prop :=
 Rd H a (.lst xs) \/
  ∃ (o : Obj) (its : Array Value) (n : Nat), K.lookup a = some o /\ o.cls = .type "list" /\ o.dict = none /\ o.data = .seq its n /\ its.size <= sizeLine /\ Vals xs its.toList
noncomputable def SqT (K : PySem.W.Frag) (H : Hp) (a : Addr) (xs : List V) : Prop :=
 Rd H a (.tup xs) \/
  ∃ (o : Obj) (its : Array Value) (n : Nat), K.lookup a = some o /\ o.cls = .type "tuple" /\ o.data = .seq its n /\ its.size <= sizeLine /\ Vals xs its.toList
noncomputable def absV : Value -> Option V
 | .none => some .non
 | .bool b => some (.bl b)
 | .int i _ => some (.int i)
 | .str x _ => some (.str x)
 | .bytes b _ => some (.byt b)
 | .float b _ => some (.flt b)
 | .ref a => some (.ref a)
 | .type n => some (.ty n)
 | _ => none
theorem RelV.abs {x : V} {u : Value} (r : RelV x u) : absV u = some x := by
 cases x with
 | non => cases r; rfl
 | bl _ => cases r; rfl
 | int _ => obtain ⟨t, rfl⟩ := r; rfl
 | str _ => obtain ⟨t, rfl⟩ := r; rfl
 | byt _ => obtain ⟨t, rfl⟩ := r; rfl
 | flt _ => obtain ⟨t, rfl⟩ := r; rfl
 | ref _ => cases r; rfl
 | ty _ => cases r; rfl
theorem RelV.inj {x y : V} {u : Value} (r : RelV x u) (q : RelV y u) : x = y := Option.some.inj (r.abs.symm.trans q.abs)
theorem Vals.inj : ∀ {xs ys : List V} {us : List Value}, Vals xs us -> Vals ys us -> xs = ys
 | _, _, _, .nil, .nil => rfl
 | _, _, _, .cons r t, .cons r' t' => by rw [r.inj r', Vals.inj t t']
section
variable {X : Cx} {pins : List (Addr × Obj)} {σ : St} {H : Hp} {s : Shared} {a : Addr} {xs ys : List V}
theorem SqL.of {K : PySem.W.Frag} (h : H a = some (.lst xs)) : SqL K H a xs := .inl (.inl h)
theorem SqT.of {K : PySem.W.Frag} (h : H a = some (.tup xs)) : SqT K H a xs := .inl (.inl h)
theorem Inv.list (I : Inv X pins σ H s) (h : SqL X.K H a xs) : ∃ its : List Value, Vals xs its /\ PlainL s.heap a its.toArray /\ xs.length <= sizeLine := by
 rcases h with h | ⟨o, its, n, hk, hc, hd, hs, hz, r⟩
 ·obtain ⟨z, its, n, r, e⟩ := h.ok I.hok
  exact ⟨its, r, ⟨_, n, e, rfl, rfl, rfl⟩, z⟩
 ·refine ⟨its.toList, r, ⟨o, n, I.kIn a o hk, hc, hd, by simpa using hs⟩, ?_⟩
  have e := r.length
  simp only [Array.length_toList] at e
  lia
theorem Inv.tuple (I : Inv X pins σ H s) (h : SqT X.K H a xs) : ∃ its : List Value, Vals xs its /\ IsTup s.heap a its.toArray /\ xs.length <= sizeLine := by
 rcases h with h | ⟨o, its, n, hk, hc, hs, hz, r⟩
 ·obtain ⟨z, its, r, p⟩ := h.ok I.hok
  exact ⟨its, r, p, z⟩
 ·refine ⟨its.toList, r, ⟨o, I.kIn a o hk, hc, n, by simpa using hs⟩, ?_⟩
  have e := r.length
  simp only [Array.length_toList] at e
  lia
theorem Inv.list_inj (I : Inv X pins σ H s) (h : SqL X.K H a xs) (h' : SqL X.K H a ys) : xs = ys := by
 obtain ⟨its, r, ⟨o, n, e, _, _, d⟩, _⟩ := I.list h
 obtain ⟨its', r', ⟨o', n', e', _, _, d'⟩, _⟩ := I.list h'
 rw [e] at e'; cases e'
 rw [d] at d'
 injection d' with d1 _
 have : its = its' := by simpa using congrArg Array.toList d1
 subst this
 exact r.inj r'
end
noncomputable abbrev Cx.wish (X : Cx) (E : Value -> Shared -> Prop) : Cx := { X with xe := E }
noncomputable abbrev Cx.nox (X : Cx) : Cx := X.wish fun _ _ => False
theorem Cx.Ok.wish {X : Cx} (ok : X.Ok) (E : Value -> Shared -> Prop) : (X.wish E).Ok :=
 ⟨ok.mod, ok.kind, ok.glob, ok.blt, ok.above, ok.inj, ok.has, ok.cab, ok.hd, ok.frames, ok.stk, ok.exf, ok.bs, ok.bsz, ok.noex, ok.exfs, ok.funs, ok.frf⟩
theorem Cx.Ok.unwish {X : Cx} {E : Value -> Shared -> Prop} (ok : (X.wish E).Ok) : X.Ok :=
 ⟨ok.mod, ok.kind, ok.glob, ok.blt, ok.above, ok.inj, ok.has, ok.cab, ok.hd, ok.frames, ok.stk, ok.exf, ok.bs, ok.bsz, ok.noex, ok.exfs, ok.funs, ok.frf⟩
section
variable {X : Cx} {pins : List (Addr × Obj)} {σ : St} {H : Hp} {s : Shared} {E : Value -> Shared -> Prop}
theorem Inv.wish (I : Inv X pins σ H s) (E : Value -> Shared -> Prop) : Inv (X.wish E) pins σ H s := ⟨I.ok.wish E, I.os, I.bare, I.base, I.loc, I.cell, I.free, I.freeC, I.pin, I.hok, I.len⟩
theorem Inv.unwish (I : Inv (X.wish E) pins σ H s) : Inv X pins σ H s := ⟨I.ok.unwish, I.os, I.bare, I.base, I.loc, I.cell, I.free, I.freeC, I.pin, I.hok, I.len⟩
theorem SP.unwish {D : Ends} {f : Flow} {s' : Shared} (h : SP (X.wish E) pins D f s') : SP X pins D f s' := by
 cases f with
 | next => obtain ⟨σ', H', I, q⟩ := h; exact ⟨σ', H', I.unwish, q⟩
 | brk => obtain ⟨σ', H', I, q⟩ := h; exact ⟨σ', H', I.unwish, q⟩
 | cont => obtain ⟨σ', H', I, q⟩ := h; exact ⟨σ', H', I.unwish, q⟩
 | ret u => obtain ⟨v, σ', H', I, r, q⟩ := h; exact ⟨v, σ', H', I.unwish, r, q⟩
theorem PE.nox {e : Expr} {t : TE} (h : PE X.nox e t) : PE X e t := fun pins s σ H Q I hw =>
 wpAny_mono (h pins s σ H Q (I.wish _) hw) (fun _ _ ⟨v, H', I', r, q⟩ => ⟨v, H', I'.unwish, r, q⟩) fun _ _ z => False.elim z
theorem PT.nox {e : Expr} {t : TT} (h : PT X.nox e t) : PT X e t := fun pins s σ H Q I hw =>
 wpAny_mono (h pins s σ H Q (I.wish _) hw) (fun _ _ ⟨H', I', q⟩ => ⟨H', I'.unwish, q⟩) fun _ _ z => False.elim z
theorem PSs.nox {st : List Stmt} {t : TS} (h : PSs X.nox st t) : PSs X st t := fun pins s σ H D I hw =>
 wpAny_mono (h pins s σ H D (I.wish _) hw) (fun _ _ q => q.unwish) fun _ _ z => False.elim z
end
section
variable {X : Cx} {st : Stmt} {rest : List Stmt} {t u : TS} {e : Expr} {te : TE} {pos : Pos}
noncomputable def zp5 : TS := fun D σ H => D.nx σ H
noncomputable def tSeq (t u : TS) : TS := fun D σ H => t { D with nx := u D } σ H
theorem zbt : PSs X [] zp5 := fun _ _ σ H _ I h => wpAny_execs_nil ⟨σ, H, I, h⟩
theorem zai (h1 : PS X st t) (h2 : PSs X rest u) : PSs X (st :: rest) (tSeq t u) := by
 intro pins s σ H D I h
 refine wpAny_execs_cons (thn (h1 pins s σ H { D with nx := u D } I h) fun f s1 q => ?_)
 cases f with
 | next =>
  obtain ⟨σ', H', I', q⟩ := q
  exact h2 pins s1 σ' H' D I' q
 | ret v => exact q
 | brk => exact q
 | cont => exact q
theorem zao (h1 : PS X st t) : PSs X [st] t := by
 intro pins s σ H D I h
 refine wpAny_execs_cons (thn (h1 pins s σ H D I h) fun f s1 q => ?_)
 cases f with
 | next => exact wpAny_execs_nil q
 | ret v => exact q
 | brk => exact q
 | cont => exact q
theorem Inv.quiet {pins : List (Addr × Obj)} {σ : St} {H : Hp} {s : Shared} (I : Inv X pins σ H s) : interactive X.env = false := by simp [interactive, I.ok.kind]
noncomputable def zqs (te : TE) : TS := fun D σ H => te σ H fun _ H1 => D.nx σ H1
theorem zfw (he : PE X e te) (hs : swapsWith e none pos.line X.env = pure false := by rfl) : PS X (.Expr e pos) (zqs te) := by
 intro pins s σ H D I h
 exact wpAny_Expr_any (thn (he pins s σ H _ I h) fun v s1 ⟨x, H1, I1, r1, q1⟩ => ⟨σ, H1, I1, q1⟩) I.quiet hs
noncomputable def tRet (te : TE) : TS := fun D σ H => te σ H D.rt
theorem zbs (he : PE X e te) : PS X (.Return (some e) pos) (tRet te) := by
 intro pins s σ H D I h
 exact wpAny_Return_some (thn (he pins s σ H _ I h) fun v s1 ⟨x, H1, I1, r1, q1⟩ => ⟨x, σ, H1, I1, r1, q1⟩)
noncomputable def tIfS (c : TT) (t u : TS) : TS := fun D σ H => c σ H fun b H1 => if b = true then t D σ H1 else u D σ H1
theorem zdb {c : Expr} {a b : List Stmt} {tc : TT} (hc : PT X c tc) (ha : PSs X a t) (hb : PSs X b u) : PS X (.If c a b pos) (tIfS tc t u) := by
 intro pins s σ H D I h
 refine wpAny_If (thn (hc pins s σ H _ I h) fun d s1 hz9 => ?_)
 obtain ⟨H1, I1, q1⟩ := hz9
 cases d with
 | true => exact ha pins s1 σ H1 D I1 q1
 | false => exact hb pins s1 σ H1 D I1 q1
end
noncomputable abbrev TG := V -> St -> Hp -> (St -> Hp -> Prop) -> Prop
noncomputable abbrev TGs := List V -> St -> Hp -> (St -> Hp -> Prop) -> Prop
noncomputable def PG (X : Cx) (target : Expr) (t : TG) : Prop :=
 ∀ (pins : List (Addr × Obj)) (s : Shared) (σ : St) (H : Hp) (v : V) (u : Value) (Q : St -> Hp -> Prop), Inv X pins σ H s -> RelV v u -> t v σ H Q ->
  wpAny (model X.prog X.w) X.A (assign target X.env u) (fun _ s' => ∃ σ' H', Inv X pins σ' H' s' /\ Q σ' H') X.xe s
noncomputable def PGs (X : Cx) (ts : List Expr) (t : TGs) : Prop :=
 ∀ (pins : List (Addr × Obj)) (s : Shared) (σ : St) (H : Hp) (vs : List V) (us : List Value) (Q : St -> Hp -> Prop), Inv X pins σ H s -> Vals vs us -> t vs σ H Q ->
  wpAny (model X.prog X.w) X.A (assignInOrder ((assignEach ts X.env).map (·.2)) us) (fun _ s' => ∃ σ' H', Inv X pins σ' H' s' /\ Q σ' H') X.xe s
section
variable {X : Cx} {pos : Pos}
noncomputable def zgh (i : Nat) : TG := fun v σ H Q => Q (σ.set i (some v)) H
theorem zdx {i : Nat} {x : Str} (hN : X.N.Nodup) (hi : X.N[i]? = some x) (hx : Loc X.env.scope x) (hf : X.fn x = true \/ X.env.scope.names.lookup x = some .local := by first | exact .inl rfl | exact .inr rfl | assumption) : PG X (.Name x pos) (zgh i) := by
 intro pins s σ H v u Q I r h
 exact wpAny_assign_Name (ze8 I hN hi hx r (fun s' I' => ⟨_, H, I', h⟩) hf)
noncomputable def gNil : TGs := fun vs σ H Q => vs = [] /\ Q σ H
noncomputable def zqr (t : TG) (u : TGs) : TGs := fun vs σ H Q => ∃ v r, vs = v :: r /\ t v σ H fun σ' H' => u r σ' H' Q
theorem zmm : PGs X [] gNil := by
 intro pins s σ H vs us Q I r h
 obtain ⟨e, h⟩ := h
 subst e
 cases r
 exact assignInOrder_nil ⟨σ, H, I, h⟩
theorem ze7 {e : Expr} {es : List Expr} {t : TG} {u : TGs} (h1 : PG X e t) (h2 : PGs X es u)
  (hs : (assignEach (e :: es) X.env).map (·.2) = assign e X.env :: (assignEach es X.env).map (·.2) := by rfl) : PGs X (e :: es) (zqr t u) := by
 intro pins s σ H vs us Q I r h
 obtain ⟨v, vr, e1, h⟩ := h
 subst e1
 cases r with
 | cons r rr =>
  rw [hs]
  refine assignInOrder_cons (thn (h1 pins s σ H _ _ _ I r h) fun _ s1 hz9 => ?_)
  obtain ⟨σ1, H1, I1, q1⟩ := hz9
  exact h2 pins s1 σ1 H1 _ _ Q I1 rr q1
noncomputable def gTup (K : PySem.W.Frag) (n : Nat) (t : TGs) : TG := fun v σ H Q => ∃ a xs, v = .ref a /\ SqT K H a xs /\ xs.length = n /\ t xs σ H Q
theorem zo2 {es : List Expr} {k : Nat} {t : TGs} {n : Nat} (hc : X.calm = true) (h : PGs X es t)
  (hn : (assignEach es X.env).length = n := by rfl) (hst : (assignEach es X.env).findIdx? (·.1) = none := by rfl) : PG X (.Tuple es k pos) (gTup X.K n t) := by
 intro pins s σ H v u Q I r hw
 obtain ⟨a, xs, e1, hq, hl, hw⟩ := hw
 subst e1
 cases r
 obtain ⟨its, rv, ht, hz⟩ := I.tuple hq
 refine assign_Tuple_tuple (I.ok.hd hc) ht (by simp [hn, <- hl, rv.length]) hst fun h' hx => ?_
 have I1 : Inv X pins σ H { s with heap := h' } := I.kept (t':=s.toks) fun b o e => hx b o (Nat.ne_of_lt (Heap.lt_size e)) e
 exact h pins _ σ H xs _ Q I1 (by simpa using rv) hw
noncomputable def tAsg (te : TE) (g : TG) : TS := fun D σ H => te σ H fun x H1 => g x σ H1 D.nx
theorem zb2 {i : Nat} {x : Str} {e : Expr} {te : TE} {pos' : Pos} (hN : X.N.Nodup) (hi : X.N[i]? = some x) (hx : Loc X.env.scope x) (he : PE X e te) (hs : swapsWith e (some (.Name x pos')) pos.line X.env = pure false := by rfl) (hf : X.fn x = true \/ X.env.scope.names.lookup x = some .local := by first | exact .inl rfl | exact .inr rfl | assumption) :
  PS X (.Assign [.Name x pos'] e pos) (tAsg te (zgh i)) := by
 intro pins s σ H D I h
 refine wpAny_Assign_Name (thn (he pins s σ H _ I h) fun v s1 hz9 => ?_) hs
 obtain ⟨y, H1, I1, r1, q1⟩ := hz9
 exact ze8 I1 hN hi hx r1 (fun s2 I2 => ⟨_, H1, I2, q1⟩) hf
end
structure It where
 go : Nat -> Hp -> Prop
 yld : Nat -> Hp -> V -> Hp -> Prop
 stop : Nat -> Hp -> Prop
noncomputable def FpOk (X : Cx) (pins : List (Addr × Obj)) (H : Hp) (b : Addr) : Prop :=
 H b = none /\ b ≠ X.env.locals /\ b ∉ X.fs /\ (b ∈ X.ex \/ X.s₀.heap.objs.size <= b) /\ (∀ x c, X.env.cells.lookup x = some c -> c ≠ b) /\ ∀ p ∈ X.pn ++ pins, p.1 ≠ b
theorem Inv.fpOk {X : Cx} {pins : List (Addr × Obj)} {σ : St} {H H' : Hp} {s : Shared} {b : Addr} (I : Inv X pins σ H s) (hb : s.heap.objs.size <= b) (hn : H' b = none) : FpOk X pins H' b := by
 refine ⟨hn, Nat.ne_of_gt (Nat.lt_of_lt_of_le I.lt hb), I.nofs hb, .inr (Nat.le_trans I.sz hb), fun x c e z => ?_, fun p hp z => ?_⟩
 ·obtain ⟨v, q⟩ := I.cell x c e
  exact absurd (Nat.lt_of_lt_of_le q.lt (by rw [z]; exact hb)) (Nat.lt_irrefl _)
 ·exact absurd (Nat.lt_of_lt_of_le (Heap.lt_size (I.pin p hp).1) (by rw [z]; exact hb)) (Nat.lt_irrefl _)
structure Turn (P : Program) (w : World) (K : PySem.W.Frag) (tg : Expr) (J : It) (fp : List Addr) (it : Addr) (tn : Nat -> Heap -> Prop) : Prop where
 mem : it ∈ fp
 obj : ∀ i h, tn i h -> ∀ b ∈ fp, ∃ o, h.get? b = some o /\ ∀ v, o.data ≠ .cell v
 keep : ∀ i h h', tn i h -> (∀ b ∈ fp, ∀ o, h.get? b = some o -> h'.get? b = some o) -> tn i h'
 item : ∀ (X : Cx), X.prog = P -> X.w = w -> X.K = K -> X.calm = true -> ∀ (i : Nat) (pins : List (Addr × Obj)) (s : Shared) (σ : St) (H : Hp) (E : Value -> Shared -> Prop), Inv X pins σ H s -> (∀ b ∈ fp, FpOk X pins H b) -> tn i s.heap -> J.go i H ->
  wpAny (model P w) X.A (pyNext (.ref it)) (fun r s1 => ∃ u, r = some u /\
   wpAny (model P w) X.A (letOwnedTupleGo tg (.ref it) u) (fun _ s2 => ∃ x H', Inv X pins σ H' s2 /\ RelV x u /\ J.yld i H x H' /\ tn (i + 1) s2.heap /\ ∀ b ∈ fp, H' b = none) E s1) E s
 done : ∀ (X : Cx), X.prog = P -> X.w = w -> X.K = K -> X.calm = true -> ∀ (i : Nat) (pins : List (Addr × Obj)) (s : Shared) (σ : St) (H : Hp) (E : Value -> Shared -> Prop), Inv X pins σ H s -> (∀ b ∈ fp, FpOk X pins H b) -> tn i s.heap -> J.stop i H ->
  wpAny (model P w) X.A (pyNext (.ref it)) (fun r s1 => r = none /\ Inv X pins σ H s1) E s
 self : ∀ (A : Around) (i : Nat) (s : Shared) (Q : Value -> Shared -> Prop) (E : Value -> Shared -> Prop), tn i s.heap -> Q (.ref it) s -> wpAny (model P w) A (pyIter (.ref it)) Q E s
noncomputable abbrev TI := St -> Hp -> (It -> Hp -> Prop) -> Prop
noncomputable def PIE (X : Cx) (pins : List (Addr × Obj)) (σ : St) (tg : Expr) (R : It -> Hp -> Prop) (itv : Value) (s2 : Shared) : Prop :=
 ∃ (it : Addr) (fp : List Addr) (tn : Nat -> Heap -> Prop) (J : It) (H' : Hp), itv = .ref it /\ Inv X pins σ H' s2 /\ Turn X.prog X.w X.K tg J fp it tn /\ tn 0 s2.heap /\ (∀ b ∈ fp, FpOk X pins H' b) /\ R J H'
noncomputable def PI (X : Cx) (tg iter : Expr) (wi : TI) : Prop :=
 ∀ (pins : List (Addr × Obj)) (s : Shared) (σ : St) (H : Hp) (R : It -> Hp -> Prop), Inv X pins σ H s -> wi σ H R ->
  wpAny (model X.prog X.w) X.A (eval iter X.env) (fun v s1 => wpAny (model X.prog X.w) X.A (pyIter v) (PIE X pins σ tg R) X.xe s1) X.xe s
theorem zrv {M : Model} {A : Around} {E : Value -> Shared -> Prop} {s : Shared} {tg : Expr} {it : Addr} {u : Value} {o : Obj} {n : String} {vs : Array Value} {Q : Unit -> Shared -> Prop} (ho : s.heap.get? it = some o) (hc : o.cls = .type n) (hd : o.data = .fields vs)
    (hn : ["enumerate", "zip", "dict_itemiterator", "dict_reverseitemiterator", "odict_iterator", "itertools.zip_longest", "itertools.pairwise"].contains n = false) (hQ : Q () s) : wpAny M A (letOwnedTupleGo tg (.ref it) u) Q E s := by
  unfold letOwnedTupleGo
  cases tg <;> first
    | exact wpAny_pure hQ
    | (cases u <;> first
        | exact wpAny_pure hQ
        | (refine wpAny_bind (wpAny_load ho ?_)
           rw [hc, hd]
           show wpAny M A (if (["enumerate", "zip", "dict_itemiterator", "dict_reverseitemiterator", "odict_iterator", "itertools.zip_longest", "itertools.pairwise"].contains n && vs[0]? == some (rawInt _)) = true then _ else _) Q E s
           rw [if_neg (by intro h; rw [hn, Bool.false_and] at h; cases h)]
           exact wpAny_pure hQ))
noncomputable def Itl (K : PySem.W.Frag) (a : Addr) : It :=
 ⟨fun i H => ∃ xs x, SqL K H a xs /\ xs[i]? = some x, fun i H x H' => H' = H /\ ∀ xs, SqL K H a xs -> xs[i]? = some x, fun i H => ∃ xs, SqL K H a xs /\ xs.length <= i⟩
theorem zng {P : Program} {w : World} {K : PySem.W.Frag} {tg : Expr} (a it : Addr) : Turn P w K tg (Itl K a) [it] it (fun i h => h.IsListIter it a i) where
 mem := by simp
 obj := fun i h st b hb => by
  have e : b = it := by simpa using hb
  subst e
  obtain ⟨o, e, c, d⟩ := st
  exact ⟨o, e, fun v z => by rw [d] at z; cases z⟩
 keep := fun i h h' st k => st.at fun o e => k it (by simp) o e
 item := by
  intro X hP hw hK hc i pins s σ H E I hf st hg
  subst hP hw hK
  obtain ⟨xs, x, hq, hx⟩ := hg
  obtain ⟨its, rv, p, hz⟩ := I.list hq
  obtain ⟨u, hu, ru⟩ := rv.get hx
  obtain ⟨f0, f1, f2, f3, f4, f5⟩ := hf it (by simp)
  refine wpAny_pyNext_list_item st p.isList (x:=u) (by simpa using hu) fun h' st' sb => ?_
  have I1 : Inv X pins σ H { s with heap := h' } := I.turned (t':=s.toks) (fun b o hb e => (sb.2 b hb).trans e) f0 f1 f3 f4 f5
  obtain ⟨o, e, c, d⟩ := id st'
  exact ⟨u, rfl, zrv (s:={ s with heap := h' }) e c d (by decide) ⟨x, H, I1, ru, ⟨rfl, fun ys hy => by rw [I.list_inj hy hq]; exact hx⟩, st', fun b hb => (hf b hb).1⟩⟩
 done := by
  intro X hP hw hK hc i pins s σ H E I hf st hg
  subst hP hw hK
  obtain ⟨xs, hq, hx⟩ := hg
  obtain ⟨its, rv, p, hz⟩ := I.list hq
  obtain ⟨f0, f1, f2, f3, f4, f5⟩ := hf it (by simp)
  have hl := rv.length
  exact wpAny_pyNext_list_end (I.ok.hd hc) st p.isList (by simp; lia) fun h' eb => ⟨rfl, I.turned (t':=s.toks) (fun b o hb e => eb b o hb e) f0 f1 f3 f4 f5⟩
 self := fun _ _ _ _ _ st h => wpAny_pyIter_listiter st h
end L2
namespace L2
open PySem PySem.Spec PyProof.Rows
section
variable {X : Cx} {tg : Expr}
noncomputable def zm3 (K : PySem.W.Frag) (tl : TE) : TI := fun σ H R => tl σ H fun x H1 => ∃ a, x = .ref a /\ (∃ xs, SqL K H1 a xs) /\ R (Itl K a) H1
theorem zmp {l : Expr} {tl : TE} (hl : PE X l tl) : PI X tg l (zm3 X.K tl) := by
 intro pins s σ H R I h
 refine thn (hl pins s σ H _ I h) fun v s1 hz9 => ?_
 obtain ⟨x, H1, I1, r1, q1⟩ := hz9
 obtain ⟨a, e, ⟨xs, hq⟩, q⟩ := q1
 subst e
 cases r1
 obtain ⟨its, rv, p, hz⟩ := I1.list hq
 refine wpAny_pyIter_list p.isList ?_
 refine ⟨s1.heap.objs.size, [s1.heap.objs.size], _, _, H1, rfl, I1.kept (t':=s1.toks) fun b o e => Heap.get?_push_of_some _ e, zng a _, ⟨_, Heap.get?_push_size _ rfl, rfl, rfl⟩, fun b hb => ?_, q⟩
 have e : b = s1.heap.objs.size := by simpa using hb
 subst e
 exact I1.fpOk (Nat.le_refl _) (I1.hok.fresh (Nat.le_refl _))
noncomputable def tFor (wi : TI) (g : TG) (tb : TS) : TS := fun D σ H => wi σ H fun J H1 => ∃ W : Nat -> Nat -> St -> Hp -> Prop, (∃ m, W 0 m σ H1) /\ ∀ i m σ H, W i m σ H ->
 (J.stop i H /\ D.nx σ H) \/ (J.go i H /\ ∃ N : St -> Hp -> Prop, (∀ σ' H', N σ' H' -> ∃ m', m' < m /\ W (i + 1) m' σ' H') /\ ∀ x H', J.yld i H x H' -> g x σ H' fun σ2 H2 => tb { D with nx := N, ct := N, bk := D.nx } σ2 H2)
noncomputable def zgr (fp : List Addr) (h : Heap) : List (Addr × Obj) := fp.filterMap fun b => (h.get? b).map fun o => (b, o)
theorem zcc {fp : List Addr} {h : Heap} {b : Addr} {o : Obj} (hb : b ∈ fp) (e : h.get? b = some o) : (b, o) ∈ zgr fp h := List.mem_filterMap.mpr ⟨b, hb, by rw [e]; rfl⟩
theorem zl5 {fp : List Addr} {h : Heap} {p : Addr × Obj} (hp : p ∈ zgr fp h) : p.1 ∈ fp /\ h.get? p.1 = some p.2 := by
 obtain ⟨b, hb, e⟩ := List.mem_filterMap.mp hp
 cases q : h.get? b with
 | none => rw [q] at e; cases e
 | some o =>
  rw [q] at e
  have e' : (b, o) = p := Option.some.inj e
  subst e'
  exact ⟨hb, q⟩
theorem Inv.pinned {pins : List (Addr × Obj)} {σ : St} {H : Hp} {s : Shared} {fp : List Addr} (I : Inv X pins σ H s) (hf : ∀ b ∈ fp, FpOk X pins H b) (ho : ∀ b ∈ fp, ∃ o, s.heap.get? b = some o /\ ∀ v, o.data ≠ .cell v) : Inv X (pins ++ zgr fp s.heap) σ H s :=
 I.pins_of fun p hp => (List.mem_append.mp hp).elim (fun z => I.pin p (List.mem_append_right _ z)) fun z => by
  obtain ⟨hb, e⟩ := zl5 z
  obtain ⟨f0, f1, f2, _⟩ := hf p.1 hb
  obtain ⟨o, e', d⟩ := ho p.1 hb
  rw [e] at e'; cases e'
  exact ⟨e, f0, f1, f2, d⟩
theorem Inv.unpinned {pins pl : List (Addr × Obj)} {σ : St} {H : Hp} {s : Shared} (I : Inv X (pins ++ pl) σ H s) : Inv X pins σ H s := I.pins_of fun p hp => I.pin p (List.mem_append_right _ (List.mem_append_left _ hp))
theorem zry {iter : Expr} {body : List Stmt} {wi : TI} {g : TG} {tb : TS} {pos : Pos} (hp : PassesOwn (model X.prog X.w) X.A X.env X.xe) (hc : X.calm = true) (hi : PI X tg iter wi) (hg : PG X tg g) (hb : PSs X body tb)
  (hs : ∀ x, foldedSetIterable iter X.env x = pure x := by intro _; rfl) : PS X (.For tg iter body [] pos) (tFor wi g tb) := by
 intro pins s σ H D I h
 refine wpAny_For (thn (hi pins s σ H _ I h) fun v s1 h1 => thn h1 fun itv s2 h2 => ?_) hs
 obtain ⟨it, fp, tn, J, H2, e, I2, T, st2, f2, W, ⟨m0, w0⟩, turn⟩ := h2
 subst e
 -- what stays true of the iterator's objects through the loop
 have stat : ∀ {H' : Hp}, (∀ b ∈ fp, H' b = none) -> ∀ b ∈ fp, FpOk X pins H' b := fun hn b hb => ⟨hn b hb, (f2 b hb).2⟩
 refine codeAny_forLoop_any (fun n s' => ∃ i σ' H', Inv X pins σ' H' s' /\ tn i s'.heap /\ (∀ b ∈ fp, H' b = none) /\ W i n σ' H') ?_ m0 ⟨0, σ, H2, I2, st2, fun b hb => (f2 b hb).1, w0⟩
 rintro n s3 ⟨i, σ3, H3, I3, st3, fr3, w3⟩
 rcases turn i n σ3 H3 w3 with ⟨stop, qn⟩ | ⟨go, N, hN, step⟩
 ·refine wpAny_passesOwn hp (thn (T.done X rfl rfl rfl hc i pins s3 σ3 H3 X.xe I3 (stat fr3) st3 stop) fun r s4 hz9 => ?_)
  obtain ⟨hr, I4⟩ := hz9
  subst hr
  exact wpAny_execs_nil ⟨σ3, H3, I4, qn⟩
 ·refine wpAny_passesOwn hp (thn (T.item X rfl rfl rfl hc i pins s3 σ3 H3 X.xe I3 (stat fr3) st3 go) fun r s4 hz9 => ?_)
  obtain ⟨u, hr, h4⟩ := hz9
  subst hr
  refine wpAny_passesOwn hp (thn h4 fun _ s5 hz9 => ?_)
  obtain ⟨x, H5, I5, r5, y5, st5, fr5⟩ := hz9
  have I5' := I5.pinned (stat fr5) (T.obj _ _ st5)
  refine wpAny_passesOwn hp (thn (hg _ s5 σ3 H5 x u _ I5' r5 (step x H5 y5)) fun _ s6 hz9 => ?_)
  obtain ⟨σ6, H6, I6, q6⟩ := hz9
  refine wpAny_passesOwn hp (thn (hb _ s6 σ6 H6 _ I6 q6) fun f s7 q7 => ?_)
  have again : ∀ {σ7 : St} {H7 : Hp}, Inv X (pins ++ zgr fp s5.heap) σ7 H7 s7 -> N σ7 H7 -> ∃ m, m < n /\ ∃ i σ' H', Inv X pins σ' H' s7 /\ tn i s7.heap /\ (∀ b ∈ fp, H' b = none) /\ W i m σ' H' := fun {σ7 H7} I7 n7 => by
   obtain ⟨m', hm, w7⟩ := hN σ7 H7 n7
   refine ⟨m', hm, i + 1, σ7, H7, I7.unpinned, T.keep _ _ _ st5 fun b hb o e => (I7.pin (b, o) (List.mem_append_right _ (List.mem_append_right _ (zcc hb e)))).1, fun b hb => ?_, w7⟩
   obtain ⟨o, e, d⟩ := T.obj _ _ st5 b hb
   exact (I7.pin (b, o) (List.mem_append_right _ (List.mem_append_right _ (zcc hb e)))).2.1
  cases f with
  | next => obtain ⟨σ7, H7, I7, n7⟩ := q7; exact again I7 n7
  | cont => obtain ⟨σ7, H7, I7, n7⟩ := q7; exact again I7 n7
  | brk => obtain ⟨σ7, H7, I7, q7⟩ := q7; exact ⟨σ7, H7, I7.unpinned, q7⟩
  | ret v => obtain ⟨x7, σ7, H7, I7, r7, q7⟩ := q7; exact ⟨x7, σ7, H7, I7.unpinned, r7, q7⟩
end
end L2
namespace L2
open PySem PySem.Spec PyProof.Rows
noncomputable abbrev R2 := V -> V -> Hp -> VK -> Prop
noncomputable def OpR (X : Cx) (f : Value -> Value -> Sem Value) (r : R2) : Prop :=
 ∀ (pins : List (Addr × Obj)) (s : Shared) (σ : St) (H : Hp) (x y : V) (v u : Value) (Q : VK), Inv X pins σ H s -> RelV x v -> RelV y u -> r x y H Q ->
  wpAny (model X.prog X.w) X.A (f v u) (EP X pins σ Q) X.xe s
noncomputable def UnR (X : Cx) (f : Value -> Sem Value) (r : V -> Hp -> VK -> Prop) : Prop :=
 ∀ (pins : List (Addr × Obj)) (s : Shared) (σ : St) (H : Hp) (x : V) (v : Value) (Q : VK), Inv X pins σ H s -> RelV x v -> r x H Q ->
  wpAny (model X.prog X.w) X.A (f v) (EP X pins σ Q) X.xe s
noncomputable def zco (X : Cx) (f : Value) (r : List V -> Hp -> VK -> Prop) : Prop :=
 ∀ (pins : List (Addr × Obj)) (s : Shared) (σ : St) (H : Hp) (xs : List V) (us : List Value) (Q : VK), Inv X pins σ H s -> Vals xs us -> r xs H Q ->
  wpAny (model X.prog X.w) X.A (call f us) (EP X pins σ Q) X.xe s
noncomputable def tOp (r : R2) (ta tb : TE) : TE := fun σ H Q => ta σ H fun x H1 => tb σ H1 fun y H2 => r x y H2 Q
noncomputable def tUn (r : V -> Hp -> VK -> Prop) (ta : TE) : TE := fun σ H Q => ta σ H fun x H1 => r x H1 Q
noncomputable def rI (C : Int -> Int -> Prop) (g : Int -> Int -> V) : R2 := fun x y H Q => ∃ i j, x = .int i /\ y = .int j /\ C i j /\ Q (g i j) H
noncomputable def rI0 (g : Int -> Int -> V) : R2 := fun x y H Q => ∃ i j, x = .int i /\ y = .int j /\ Q (g i j) H
noncomputable def rU (g : Int -> V) : V -> Hp -> VK -> Prop := fun x H Q => ∃ i, x = .int i /\ Q (g i) H
section
variable {X : Cx} {a b c : Expr} {ta tb tc : TE} {pos : Pos}
theorem binT (ha : PE X a ta) (hb : PE X b tb) {pins : List (Addr × Obj)} {s : Shared} {σ : St} {H : Hp} {R : V -> V -> Hp -> Prop} (I : Inv X pins σ H s)
  (h : ta σ H fun x H1 => tb σ H1 fun y H2 => R x y H2) {Q : Value -> Shared -> Prop} {f : Value -> Value -> Sem Value}
  (hf : ∀ v u s2 x y H2, Inv X pins σ H2 s2 -> RelV x v -> RelV y u -> R x y H2 -> wpAny (model X.prog X.w) X.A (f v u) Q X.xe s2) :
  wpAny (model X.prog X.w) X.A (eval a X.env) (fun v s₁ => wpAny (model X.prog X.w) X.A (eval b X.env) (fun u s₂ => wpAny (model X.prog X.w) X.A (f v u) Q X.xe s₂) X.xe s₁) X.xe s := by
 refine thn (ha pins s σ H _ I h) fun v s1 hz9 => ?_
 obtain ⟨x, H1, I1, r1, q1⟩ := hz9
 refine thn (hb pins s1 σ H1 _ I1 q1) fun u s2 hz9 => ?_
 obtain ⟨y, H2, I2, r2, q2⟩ := hz9
 exact hf v u s2 x y H2 I2 r1 r2 q2
theorem zb1 {op : Operator} {r : R2} (ho : OpR X (binaryOp op) r) (ha : PE X a ta) (hb : PE X b tb) : PE X (.BinOp a op b pos) (tOp r ta tb) := by
 intro pins s σ H Q I h
 exact wpAny_BinOp (binT ha hb I h fun v u s2 x y H2 I2 rx ry q => ho pins s2 σ H2 x y v u Q I2 rx ry q)
theorem zrd {op : UnaryOp} {r : V -> Hp -> VK -> Prop} (ho : UnR X (unaryOp op) r) (ha : PE X a ta) : PE X (.UnaryOp op a pos) (tUn r ta) := by
 intro pins s σ H Q I h
 exact UnaryOp_ (thn (ha pins s σ H _ I h) fun v s1 ⟨x, H1, I1, r1, q1⟩ => ho pins s1 σ H1 x v Q I1 r1 q1)
theorem opI {f : Value -> Value -> Sem Value} {C : Int -> Int -> Prop} {g : Int -> Int -> Int}
  (rule : ∀ (i j : Int) (t u : Tok) (s : Shared) (Q : Value -> Shared -> Prop) (E : Value -> Shared -> Prop), C i j -> Q (.int (g i j) s.toks) { s with toks := s.toks + 1 } -> wpAny (model X.prog X.w) X.A (f (.int i t) (.int j u)) Q E s) :
  OpR X f (rI C fun i j => .int (g i j)) := by
 intro pins s σ H x y v u Q I rx ry h
 obtain ⟨i, j, rfl, rfl, hc, q⟩ := h
 obtain ⟨t, rfl⟩ := rx
 obtain ⟨t', rfl⟩ := ry
 exact rule i j t t' s _ _ hc ⟨.int (g i j), H, I.tok _, ⟨_, rfl⟩, q⟩
theorem opI0 {f : Value -> Value -> Sem Value} {g : Int -> Int -> Int}
  (rule : ∀ (i j : Int) (t u : Tok) (s : Shared) (Q : Value -> Shared -> Prop) (E : Value -> Shared -> Prop), Q (.int (g i j) s.toks) { s with toks := s.toks + 1 } -> wpAny (model X.prog X.w) X.A (f (.int i t) (.int j u)) Q E s) :
  OpR X f (rI0 fun i j => .int (g i j)) := by
 intro pins s σ H x y v u Q I rx ry h
 obtain ⟨i, j, rfl, rfl, q⟩ := h
 obtain ⟨t, rfl⟩ := rx
 obtain ⟨t', rfl⟩ := ry
 exact rule i j t t' s _ _ ⟨.int (g i j), H, I.tok _, ⟨_, rfl⟩, q⟩
theorem opB0 {f : Value -> Value -> Sem Value} {g : Int -> Int -> Bool}
  (rule : ∀ (i j : Int) (t u : Tok) (s : Shared) (Q : Value -> Shared -> Prop) (E : Value -> Shared -> Prop), Q (.bool (g i j)) s -> wpAny (model X.prog X.w) X.A (f (.int i t) (.int j u)) Q E s) :
  OpR X f (rI0 fun i j => .bl (g i j)) := by
 intro pins s σ H x y v u Q I rx ry h
 obtain ⟨i, j, rfl, rfl, q⟩ := h
 obtain ⟨t, rfl⟩ := rx
 obtain ⟨t', rfl⟩ := ry
 exact rule i j t t' s _ _ ⟨.bl (g i j), H, I, rfl, q⟩
noncomputable def CDiv (i j : Int) : Prop := 0 < j /\ j < 1073741824
noncomputable def CPow (i j : Int) : Prop := 0 <= j /\ j <= 1000000 /\ i.natAbs < 2 ^ 64
theorem zi1 : OpR X (binaryOp .Add) (rI0 fun i j => .int (i + j)) := opI0 fun _ _ _ _ _ _ _ q => add_int q
theorem zfs : OpR X (binaryOp .FloorDiv) (rI CDiv fun i j => .int (i / j)) := opI fun i j _ _ _ _ _ hc q => by
 have h1 : (0 : Int) < j := hc.1
 have h2 : j < 1073741824 := hc.2
 exact floordiv_int (by lia) (by rw [Int.fdiv_eq_ediv_of_nonneg i (by lia)]; exact q) (.inl (PyProof.noPylong_small (by omega)))
theorem zcj : OpR X (binaryOp .Mod) (rI (fun _ j => 0 < j) fun i j => .int (i % j)) := opI fun i j _ _ _ _ _ hc q => by
 have h1 : (0 : Int) < j := hc
 exact mod_int' (by lia) (by rw [Int.fmod_eq_emod_of_nonneg i (by lia)]; exact q)
theorem zrf : OpR X (binaryOp .Pow) (rI CPow fun i j => .int (i ^ j.toNat)) := opI fun _ _ _ _ _ _ _ hc q => pow_int_small hc.1 hc.2.1 hc.2.2 q
theorem unI {f : Value -> Sem Value} {g : Int -> Int}
  (rule : ∀ (i : Int) (t : Tok) (s : Shared) (Q : Value -> Shared -> Prop) (E : Value -> Shared -> Prop), Q (.int (g i) s.toks) { s with toks := s.toks + 1 } -> wpAny (model X.prog X.w) X.A (f (.int i t)) Q E s) :
  UnR X f (rU fun i => .int (g i)) := by
 intro pins s σ H x v Q I rx h
 obtain ⟨i, rfl, q⟩ := h
 obtain ⟨t, rfl⟩ := rx
 exact rule i t s _ _ ⟨.int (g i), H, I.tok _, ⟨_, rfl⟩, q⟩
theorem zo4 : UnR X (unaryOp .USub) (rU fun i => .int (-i)) := unI fun _ _ _ _ _ q => neg_int q
end
noncomputable def scal : V -> V -> Bool
 | .non, .non => true | .non, .int _ => true | .int _, .non => true | .non, .bl _ => true | .bl _, .non => true | .non, .str _ => true | .str _, .non => true
 | .int _, .int _ => true | .bl _, .bl _ => true | .str _, .str _ => true | .byt _, .byt _ => true
 | .int _, .str _ => true | .str _, .int _ => true | .bl _, .str _ => true | .str _, .bl _ => true
 | _, _ => false
noncomputable def rEq : R2 := fun x y H Q => scal x y = true /\ Q (.bl (decide (x = y))) H
noncomputable def rNe : R2 := fun x y H Q => scal x y = true /\ Q (.bl (!decide (x = y))) H
theorem zl8 {i j : Int} : decide (V.int i = V.int j) = (i == j) := by
 rw [Bool.eq_iff_iff]
 simp
theorem zpg {i j : Bool} : decide (V.bl i = V.bl j) = (i == j) := by
 rw [Bool.eq_iff_iff]
 simp
theorem zmf {i j : Str} : decide (V.str i = V.str j) = (i == j) := by
 rw [Bool.eq_iff_iff]
 simp
theorem znb {i j : Array UInt8} : decide (V.byt i = V.byt j) = (i.toList == j.toList) := by
 rw [Bool.eq_iff_iff]
 cases i
 cases j
 simp
section
variable {X : Cx} {a b c : Expr} {ta tb tc : TE} {pos : Pos}
theorem za7 {pins : List (Addr × Obj)} {σ : St} {H : Hp} {s : Shared} {Q : VK} {k k' : Bool} (I : Inv X pins σ H s) (q : Q (.bl k) H) (e : k = k') : EP X pins σ Q (.bool k') s := by
 subst e
 exact ⟨.bl k, H, I, rfl, q⟩
theorem zcq : OpR X (compareOp .Eq) rEq := by
 intro pins s σ H x y v u Q I rx ry h
 obtain ⟨hs, q⟩ := h
 cases x with
 | non =>
  cases rx
  cases y with
  | non => cases ry; exact PySem.EqNone.eq_none_none (za7 I q (by simp))
  | bl j => cases ry; exact PySem.EqNone.eq_none_bool (za7 I q (by simp))
  | int j => obtain ⟨t', rfl⟩ := ry; exact PySem.EqNone.eq_none_int (za7 I q (by simp))
  | str j => obtain ⟨t', rfl⟩ := ry; exact PySem.EqNone.eq_none_str (za7 I q (by simp))
  | _ => exact absurd (show false = true from hs) Bool.false_ne_true
 | bl i =>
  cases rx
  cases y with
  | non => cases ry; exact PySem.EqNone.eq_bool_none (za7 I q (by simp))
  | bl j => cases ry; exact eq_bool (za7 I q zpg)
  | str j => obtain ⟨t', rfl⟩ := ry; exact PySem.EqMixed.eq_bool_str (za7 I q (by simp))
  | _ => exact absurd (show false = true from hs) Bool.false_ne_true
 | int i =>
  obtain ⟨t, rfl⟩ := rx
  cases y with
  | non => cases ry; exact PySem.EqNone.eq_int_none (za7 I q (by simp))
  | int j => obtain ⟨t', rfl⟩ := ry; exact eq_int (za7 I q zl8)
  | str j => obtain ⟨t', rfl⟩ := ry; exact PySem.EqMixed.eq_int_str (za7 I q (by simp))
  | _ => exact absurd (show false = true from hs) Bool.false_ne_true
 | str i =>
  obtain ⟨t, rfl⟩ := rx
  cases y with
  | non => cases ry; exact PySem.EqNone.eq_str_none (za7 I q (by simp))
  | bl j => cases ry; exact PySem.EqMixed.eq_str_bool (za7 I q (by simp))
  | int j => obtain ⟨t', rfl⟩ := ry; exact PySem.EqMixed.eq_str_int (za7 I q (by simp))
  | str j => obtain ⟨t', rfl⟩ := ry; exact eq_str (za7 I q zmf)
  | _ => exact absurd (show false = true from hs) Bool.false_ne_true
 | byt i =>
  obtain ⟨t, rfl⟩ := rx
  cases y with
  | byt j => obtain ⟨t', rfl⟩ := ry; exact PySem.W.eq_bytes (za7 I q znb)
  | _ => exact absurd (show false = true from hs) Bool.false_ne_true
 | _ => cases y <;> exact absurd (show false = true from hs) Bool.false_ne_true
theorem zmu : OpR X (compareOp .NotEq) rNe := by
 intro pins s σ H x y v u Q I rx ry h
 obtain ⟨hs, q⟩ := h
 cases x with
 | non =>
  cases rx
  cases y with
  | non => cases ry; exact PySem.EqNone.ne_none_none (za7 I q (by simp))
  | bl j => cases ry; exact PySem.EqNone.ne_none_bool (za7 I q (by simp))
  | int j => obtain ⟨t', rfl⟩ := ry; exact PySem.EqNone.ne_none_int (za7 I q (by simp))
  | str j => obtain ⟨t', rfl⟩ := ry; exact PySem.EqNone.ne_none_str (za7 I q (by simp))
  | _ => exact absurd (show false = true from hs) Bool.false_ne_true
 | bl i =>
  cases rx
  cases y with
  | non => cases ry; exact PySem.EqNone.ne_bool_none (za7 I q (by simp))
  | bl j => cases ry; exact ne_bool (za7 I q (congrArg not zpg))
  | str j => obtain ⟨t', rfl⟩ := ry; exact PySem.EqMixed.ne_bool_str (za7 I q (by simp))
  | _ => exact absurd (show false = true from hs) Bool.false_ne_true
 | int i =>
  obtain ⟨t, rfl⟩ := rx
  cases y with
  | non => cases ry; exact PySem.EqNone.ne_int_none (za7 I q (by simp))
  | int j => obtain ⟨t', rfl⟩ := ry; exact ne_int (za7 I q (congrArg not zl8))
  | str j => obtain ⟨t', rfl⟩ := ry; exact PySem.EqMixed.ne_int_str (za7 I q (by simp))
  | _ => exact absurd (show false = true from hs) Bool.false_ne_true
 | str i =>
  obtain ⟨t, rfl⟩ := rx
  cases y with
  | non => cases ry; exact PySem.EqNone.ne_str_none (za7 I q (by simp))
  | bl j => cases ry; exact PySem.EqMixed.ne_str_bool (za7 I q (by simp))
  | int j => obtain ⟨t', rfl⟩ := ry; exact PySem.EqMixed.ne_str_int (za7 I q (by simp))
  | str j => obtain ⟨t', rfl⟩ := ry; exact ne_str (za7 I q (congrArg not zmf))
  | _ => exact absurd (show false = true from hs) Bool.false_ne_true
 | byt i =>
  obtain ⟨t, rfl⟩ := rx
  cases y with
  | byt j => obtain ⟨t', rfl⟩ := ry; exact PySem.W.ne_bytes (za7 I q (congrArg not znb))
  | _ => exact absurd (show false = true from hs) Bool.false_ne_true
 | _ => cases y <;> exact absurd (show false = true from hs) Bool.false_ne_true
theorem zst : OpR X (compareOp .Lt) (rI0 fun i j => .bl (decide (i < j))) := opB0 fun _ _ _ _ _ _ _ q => lt_int q
theorem zsx : OpR X (compareOp .LtE) (rI0 fun i j => .bl (decide (i <= j))) := opB0 fun _ _ _ _ _ _ _ q => le_int q
theorem zsu : OpR X (compareOp .Gt) (rI0 fun i j => .bl (decide (j < i))) := opB0 fun _ _ _ _ _ _ _ q => gt_int q
theorem znq : OpR X (compareOp .In) (fun x y H Q => ∃ i j, x = .str i /\ y = .str j /\ Q (.bl (!(Builtin.Str.occurrences j i 0 j.length 1).isEmpty)) H) := by
 intro pins s σ H x y v u Q I rx ry h
 obtain ⟨i, j, rfl, rfl, q⟩ := h
 obtain ⟨t, rfl⟩ := rx
 obtain ⟨t', rfl⟩ := ry
 exact in_str (za7 I q rfl)
theorem zba (b : Expr) {op : CmpOp} (h : op ≠ .In := by decide) (h2 : op ≠ .NotIn := by decide) : behindInMarks op b = false := by
 have e1 : (op == CmpOp.In) = false := by cases op <;> first | rfl | exact absurd rfl h
 have e2 : (op == CmpOp.NotIn) = false := by cases op <;> first | rfl | exact absurd rfl h2
 cases b <;> simp [behindInMarks, e1, e2]
theorem zfl {op : CmpOp} {r : R2} (ho : OpR X (compareOp op) r) (ha : PE X a ta) (hb : PE X b tb) (hm : behindInMarks op b = false) : PE X (.Compare a [op] [b] pos) (tOp r ta tb) := by
 intro pins s σ H Q I h
 exact wpAny_Compare1 (binT ha hb I h fun v u s2 x y H2 I2 rx ry q => ho pins s2 σ H2 x y v u Q I2 rx ry q) hm
noncomputable def zlk (t : TE) : TT := fun σ H Q => t σ H fun x H' => ∃ k, x = .bl k /\ Q k H'
theorem zbc {op : CmpOp} {r : R2} (ho : OpR X (compareOp op) r) (ha : PE X a ta) (hb : PE X b tb) (hm : behindInMarks op b = false) : PT X (.Compare a [op] [b] pos) (zlk (tOp r ta tb)) := by
 intro pins s σ H Q I h
 refine wpAny_isTrue_Compare1 (thn (ha pins s σ H _ I h) fun v s1 ⟨x, H1, I1, r1, q1⟩ => thn (hb pins s1 σ H1 _ I1 q1) fun u s2 ⟨y, H2, I2, r2, q2⟩ =>
  thn (ho pins s2 σ H2 x y v u _ I2 r1 r2 q2) fun c s3 ⟨z, H3, I3, r3, k, e, q3⟩ => ?_) hm
 subst e
 cases r3
 exact wpAny_truthy_bool ⟨H3, I3, q3⟩
theorem zkp : (sizeLine : Nat) < 2 ^ 63 := by rw [sizeLine_eq]; decide
theorem zbg : OpR X (binaryOp .Add) (fun x y H Q => ∃ i j, x = .str i /\ y = .str j /\ i.length + j.length <= sizeLine /\ Q (.str (i ++ j)) H) := by
 intro pins s σ H x y v u Q I rx ry h
 obtain ⟨i, j, rfl, rfl, hz, q⟩ := h
 obtain ⟨t, rfl⟩ := rx
 obtain ⟨t', rfl⟩ := ry
 exact add_str (fun t' tk => ⟨.str (i ++ j), H, I.tok _, ⟨_, rfl⟩, q⟩) hz
theorem zjr {x : V} {us : List Value} (r : Vals [x] us) : ∃ u, us = [u] /\ RelV x u := by
 cases r with
 | cons r1 r2 => cases r2; exact ⟨_, rfl, r1⟩
theorem zi5 {x y : V} {us : List Value} (r : Vals [x, y] us) : ∃ u w', us = [u, w'] /\ RelV x u /\ RelV y w' := by
 cases r with
 | cons r1 r2 =>
  cases r2 with
  | cons r3 r4 => cases r4; exact ⟨_, _, rfl, r1, r3⟩
theorem zmn (hc : X.calm = true) : zco X (.builtin "max") (fun xs H Q => ∃ i j, xs = [.int i, .int j] /\ Q (.int (if j > i then j else i)) H) := by
 intro pins s σ H xs us Q I r h
 obtain ⟨i, j, rfl, q⟩ := h
 obtain ⟨u, w', rfl, ⟨t, rfl⟩, ⟨t', rfl⟩⟩ := zi5 r
 refine max_two_ints (I.ok.hd hc) fun h' tk k => ⟨_, H, I.kept k, ?_, q⟩
 by_cases hj : j > i
 ·rw [if_pos hj, if_pos hj]; exact ⟨_, rfl⟩
 ·rw [if_neg hj, if_neg hj]; exact ⟨_, rfl⟩
theorem zmo (hc : X.calm = true) : zco X (.builtin "min") (fun xs H Q => ∃ i j, xs = [.int i, .int j] /\ Q (.int (if j < i then j else i)) H) := by
 intro pins s σ H xs us Q I r h
 obtain ⟨i, j, rfl, q⟩ := h
 obtain ⟨u, w', rfl, ⟨t, rfl⟩, ⟨t', rfl⟩⟩ := zi5 r
 refine min_two_ints (I.ok.hd hc) fun h' tk k => ⟨_, H, I.kept k, ?_, q⟩
 by_cases hj : j < i
 ·rw [if_pos hj, if_pos hj]; exact ⟨_, rfl⟩
 ·rw [if_neg hj, if_neg hj]; exact ⟨_, rfl⟩
end
end L2
namespace L2
open PySem PySem.Spec PyProof.Rows
structure ObjM (h : Heap) (x dx C : Addr) (mA : Str -> Option Value) : Prop where
 obj : h.get? x = some (PySem.W.instObj C dx)
 ns : h.Ns1 dx mA
 ne : dx ≠ x
theorem zin {h : Heap} {dx : Addr} {mA : Str -> Option Value} (n : h.Ns1 dx mA) : ∃ od, h.get? dx = some od /\ ∀ name, PySem.W.lookIn name od = some (mA name) := by
 obtain ⟨o, es, ep, ho, hd, hk, _, hm⟩ := n
 refine ⟨o, ho, fun name => ?_⟩
 have e := hm name
 unfold nsFind findBy at e
 rw [<- Array.find?_toList] at e
 unfold PySem.W.lookIn
 rw [hd]
 dsimp only
 split
 ·rename_i y q
  rw [q] at e
  exact congrArg some e
 ·rename_i q
  rw [q] at e
  have a : es.toList.any (·.refKey) = false := by
   rw [List.any_eq_false]
   intro y hy
   obtain ⟨z, t, hkey⟩ := hk y (Array.mem_toList_iff.mp hy)
   simp [DictEntry.refKey, hkey]
  have a' : ¬ es.toList.any (·.refKey) = true := by rw [a]; exact Bool.false_ne_true
  rw [if_neg a']
  exact congrArg some e
theorem ObjM.look {h : Heap} {x dx C : Addr} {mA : Str -> Option Value} (I : ObjM h x dx C mA) : ∃ od, PySem.W.InstAt h x (PySem.W.instObj C dx) C (some od) /\ ∀ name, PySem.W.lookIn name od = some (mA name) :=
 let ⟨od, ho, hl⟩ := zin I.ns
 ⟨od, ⟨I.obj, rfl, rfl, ho⟩, hl⟩
section
variable {prog : Program} {w : World} {A : Around} {E : Value -> Shared -> Prop} {s : Shared} {K : PySem.W.Frag} {x dx C f : Addr} {mA : Str -> Option Value} {name : Str} {v : Value}
theorem zpz {expr : Bool} {Q : Value -> Shared -> Prop} (X : K.In s.heap) (I : ObjM s.heap x dx C mA) (hg : PySem.W.plainGet K C name = true) (hh : PySem.W.hasDictIn K C = true)
  (ha : PySem.W.findIn K (.ref C) name = some none) (hv : mA name = some v) (hv' : PySem.W.handedIn v = true) (h : Q v { s with toks := s.toks + 1 }) :
  wpAny (model prog w) A (getAttr (.ref x) name expr) Q E s := by
 obtain ⟨od, J, hl⟩ := I.look
 exact PySem.W.get_value X J (PySem.W.plainGet_of hg).1 (PySem.W.findObj_own hh ha rfl (by rw [hl, hv])) hv' h
theorem zqv {ns : List Str} {Q : Unit -> Shared -> Prop} (X : K.In s.heap) (I : ObjM s.heap x dx C mA)
  (hs : PySem.W.findIn K (.ref C) "__setattr__" = some (some (.builtin "object.__setattr__"))) (hp : PySem.W.plainOver K C = true) (ht : PySem.W.takerIn K C name = some none) (hh : PySem.W.hasDictIn K C = true)
  (hw : PySem.Within mA ns) (hsz : ns.length <= sizeLine)
  (h : ∀ h', ObjM h' x dx C (fun y => if y = name then some v else mA y) -> Heap.SameBut dx s.heap h' -> Q () { s with heap := h', toks := s.toks + 2 }) :
  wpAny (model prog w) A (setAttr (.ref x) name v) Q E s := by
 obtain ⟨od, J, hl⟩ := I.look
 refine PySem.W.set_plain X J hs (PySem.W.osa_open (s:={ s with toks := s.toks + 1 }) (r:=none) X J hp ht fun b => ?_)
 obtain ⟨cd, hc, hd'⟩ := PySem.W.any_some hh
 have hx : s.heap.get? x = some ⟨.ref C, some dx, .plain, #[]⟩ := I.obj
 refine wpAny_bind (wpAny_pure (wpAny_bind (wpAny_bind (wpAny_loadPart hx (wpAny_bind (PySem.W.Looks.here (s:={ s with toks := s.toks + 1 }) (PySem.W.looks_clsIn X hc) ?_))))))
 rw [hd']
 refine wpAny_pure (a:=some dx) (wpAny_bind (wpAny_pure (wpAny_bind ?_)))
 refine wpAny_nsSet1 (s:={ s with toks := s.toks + 1 }) I.ns fun h' hn2 hs2 => ?_
 obtain ⟨oD, esD, epD, hoD, hdD, hcD⟩ := hn2.count (PySem.Within.cons name v hw)
 refine wpAny_bind (wpAny_lookBehind hoD (by rw [hdD]; exact pastItsLine_dict (Nat.le_trans hcD (by rw [List.length_cons]; lia))) ?_)
 exact wpAny_pure (h _ ⟨(hs2.2 _ (Ne.symm I.ne)).trans I.obj, hn2, I.ne⟩ hs2)
theorem zoj {R : Result -> Shared -> Prop} {vs : List Value} {kw : List (Str × Value)} (X : K.In s.heap) (hm : PySem.W.makesIn K C = true)
  (hi : PySem.W.findIn K (.ref C) "__init__" = some (some (.ref f))) (hf : PySem.W.typeIn K (.ref f) = some (.type "function"))
  (h : codeAny (model prog w) (A.under (.builtin "type.__call__" ⟨.ref C :: vs, kw⟩)) (.call (.ref f) ⟨.ref (s.heap.objs.size + 1) :: vs, kw⟩) (PySem.W.InitBack (s.heap.objs.size + 1) R)
   { s with heap := (s.heap.push PySem.W.emptyDict).push (PySem.W.instObj C s.heap.objs.size) }) :
  codeAny (model prog w) A (.call (.ref C) ⟨vs, kw⟩) R s := by
 obtain ⟨hh, g, d, t, os⟩ := s
 exact PySem.W.make_core (PySem.W.makes_of X hm) (PySem.W.looks_findIn X hi) (fun self => PySem.W.bind_fn X self hf) (.inl rfl) h
end
noncomputable def putF (f : Str) (v : V) : List (Str × V) -> List (Str × V)
 | [] => [(f, v)]
 | (g, x) :: r => if g = f then (g, v) :: r else (g, x) :: putF f v r
theorem zfk (f g : Str) (v : V) : ∀ fs : List (Str × V), (putF f v fs).lookup g = if g = f then some v else fs.lookup g
 | [] => by
  show List.lookup g [(f, v)] = _
  by_cases h : g = f
  ·have hb : (g == f) = true := beq_iff_eq.mpr h
   simp only [List.lookup, hb, if_pos h]
  ·have hb : (g == f) = false := beq_eq_false_iff_ne.mpr h
   simp only [List.lookup, hb, if_neg h]
 | (k, x) :: r => by
  have ih := zfk f g v r
  rw [show putF f v ((k, x) :: r) = (if k = f then (k, v) :: r else (k, x) :: putF f v r) from rfl]
  by_cases hk : k = f
  ·rw [if_pos hk]
   by_cases h : g = k
   ·have hb : (g == k) = true := beq_iff_eq.mpr h
    simp only [List.lookup, hb, if_pos (h.trans hk)]
   ·have hb : (g == k) = false := beq_eq_false_iff_ne.mpr h
    simp only [List.lookup, hb, if_neg (fun e : g = f => h (e.trans hk.symm))]
  ·rw [if_neg hk]
   by_cases h : g = k
   ·have hb : (g == k) = true := beq_iff_eq.mpr h
    simp only [List.lookup, hb, if_neg (fun e : g = f => hk (h.symm.trans e))]
   ·have hb : (g == k) = false := beq_eq_false_iff_ne.mpr h
    simp only [List.lookup, hb]
    exact ih
theorem zfu (f : Str) (v : V) : ∀ fs : List (Str × V), f ∈ (putF f v fs).map (·.1) /\ ∀ g, g ∈ fs.map (·.1) -> g ∈ (putF f v fs).map (·.1)
 | [] => ⟨by simp [putF], fun g h => by simp at h⟩
 | (k, x) :: r => by
  obtain ⟨i1, i2⟩ := zfu f v r
  rw [show putF f v ((k, x) :: r) = (if k = f then (k, v) :: r else (k, x) :: putF f v r) from rfl]
  by_cases hk : k = f
  ·rw [if_pos hk]
   subst hk
   exact ⟨by simp, fun g h => by simpa using h⟩
  ·rw [if_neg hk]
   refine ⟨?_, fun g h => ?_⟩
   ·rw [List.map_cons]
    exact List.mem_cons_of_mem _ i1
   ·rw [List.map_cons] at h ⊢
    rcases List.mem_cons.mp h with e | e
    ·exact List.mem_cons.mpr (.inl e)
    ·exact List.mem_cons_of_mem _ (i2 g e)
theorem zf2 (f : Str) (v : V) : ∀ fs : List (Str × V), (putF f v fs).length <= fs.length + 1
 | [] => by simp [putF]
 | (k, x) :: r => by
  have ih := zf2 f v r
  rw [show putF f v ((k, x) :: r) = (if k = f then (k, v) :: r else (k, x) :: putF f v r) from rfl]
  by_cases hk : k = f
  ·rw [if_pos hk, List.length_cons, List.length_cons]; lia
  ·rw [if_neg hk, List.length_cons, List.length_cons]; lia
theorem RelO.some_of {v : V} {o : Option Value} (r : RelO (some v) o) : ∃ u, o = some u /\ RelV v u := by
 cases o with
 | none => exact (show False from r).elim
 | some u => exact ⟨u, rfl, r⟩
theorem zil {v : V} {u : Value} (r : RelV v u) : PySem.W.handedIn u = true := by
 cases v with
 | non => cases (show u = Value.none from r); rfl
 | bl b => cases (show u = Value.bool b from r); rfl
 | int i => obtain ⟨t, e⟩ := (show ∃ t, u = Value.int i t from r); cases e; rfl
 | str x => obtain ⟨t, e⟩ := (show ∃ t, u = Value.str x t from r); cases e; rfl
 | byt b => obtain ⟨t, e⟩ := (show ∃ t, u = Value.bytes b t from r); cases e; rfl
 | flt b => obtain ⟨t, e⟩ := (show ∃ t, u = Value.float b t from r); cases e; rfl
 | ref a => cases (show u = Value.ref a from r); rfl
 | ty n => cases (show u = Value.type n from r); rfl
section
variable {P : Program} {w : World} {H H' : Hp} {h h' : Heap} {a C dx : Addr} {fs fs' : List (Str × V)}
theorem zl6 (hok : HOk P w H h) (e : H a = some (.ins C dx fs)) : ∃ mA, ObjM h a dx C mA /\ (∀ f, RelO (fs.lookup f) (mA f)) /\ PySem.Within mA (fs.map (·.1)) /\ fs.length <= 1000 /\ H dx = some (.own a) := by
 obtain ⟨d, z, ne, ob, mA, n, r, q⟩ := (show zdp P w H h a (.ins C dx fs) from hok a _ e)
 exact ⟨mA, ⟨ob, n, ne⟩, r, q, z, d⟩
end
structure Cls (K : PySem.W.Frag) (C : Addr) : Prop where
 pg : PySem.W.plainGet K C Str.empty = true
 hd : PySem.W.hasDictIn K C = true
 po : PySem.W.plainOver K C = true
 sa : PySem.W.findIn K (.ref C) "__setattr__" = some (some (.builtin "object.__setattr__"))
theorem Cls.get {K : PySem.W.Frag} {C : Addr} (c : Cls K C) (f : Str) : PySem.W.plainGet K C f = true := c.pg
noncomputable def zbu (K : PySem.W.Frag) (C : Addr) (f : Str) : Prop := PySem.W.findIn K (.ref C) f = some none
theorem zbu.taker {K : PySem.W.Frag} {C : Addr} {f : Str} (n : zbu K C f) : PySem.W.takerIn K C f = some none := by
 unfold PySem.W.takerIn
 rw [show PySem.W.findIn K (.ref C) f = some none from n]
 rfl
structure Con (K : PySem.W.Frag) (C : Addr) (f : Str) (v : V) (u : Value) : Prop where
 at_ : PySem.W.findIn K (.ref C) f = some (some u)
 rel : RelV v u
 get : PySem.W.specialIn K u "__get__" = some none
 cp : PySem.W.copiedNames.contains f = false
structure Meth (K : PySem.W.Frag) (C : Addr) (m : Str) (f : Addr) : Prop where
 at_ : PySem.W.findIn K (.ref C) m = some (some (.ref f))
 fn : PySem.W.isFn K (.ref f) = true
 kp : PySem.W.keepIn K (.ref f) = true
section
variable {X : Cx} {pins : List (Addr × Obj)} {σ : St} {H : Hp} {s : Shared} {a C dx : Addr} {fs : List (Str × V)} {f : Str} {v : V} {A : Around} {E : Value -> Shared -> Prop}
theorem zlr {b : Bool} {Q : Value -> Shared -> Prop} (I : Inv X pins σ H s) (e : H a = some (.ins C dx fs)) (c : Cls X.K C) (n : zbu X.K C f) (l : fs.lookup f = some v)
  (h : ∀ u s', Inv X pins σ H s' -> RelV v u -> Q u s') : wpAny (model X.prog X.w) A (getAttr (.ref a) f b) Q E s := by
 obtain ⟨mA, O, r, _, _, _⟩ := zl6 I.hok e
 obtain ⟨u, hu, ru⟩ := RelO.some_of (v:=v) (o:=mA f) (by rw [<- l]; exact r f)
 exact zpz I.kIn O (c.get f) c.hd n hu (zil ru) (h u _ (I.tok _) ru)
theorem zlo {y : V} {u : Value} {Q : Unit -> Shared -> Prop} (I : Inv X pins σ H s) (e : H a = some (.ins C dx fs)) (c : Cls X.K C) (n : zbu X.K C f) (hl : fs.length < 1000) (ry : RelV y u)
  (h : ∀ s', Inv X pins σ (upd H a (.ins C dx (putF f y fs))) s' -> Q () s') : wpAny (model X.prog X.w) A (setAttr (.ref a) f u) Q E s := by
 obtain ⟨mA, O, r, wi, _, ho⟩ := zl6 I.hok e
 have hz : (fs.map (·.1)).length <= sizeLine := by rw [List.length_map, sizeLine_eq]; lia
 refine zqv I.kIn O c.sa c.po n.taker c.hd wi hz fun h' O' sb => h _ ?_
 have hd : ∃ o, h'.get? dx = some o := let ⟨o, _, _, e', _⟩ := O'.ns; ⟨o, e'⟩
 refine I.write (x:=a) (e:=dx) (by rw [e]; exact True.intro) (.inr ho) (fun b q hb z => (sb.2 b hb).trans z) hd ?_
 refine ⟨by rw [zaj O.ne]; exact ho, ?_, O.ne, O'.obj, _, O'.ns, fun g => ?_, fun g hg => ?_⟩
 ·have := zf2 f y fs; lia
 ·show RelO ((putF f y fs).lookup g) (if g = f then some u else mA g)
  rw [zfk]
  by_cases q : g = f
  ·rw [if_pos q, if_pos q]; exact ry
  ·rw [if_neg q, if_neg q]; exact r g
 ·by_cases q : g = f
  ·rw [q]; exact (zfu f y fs).1
  ·refine (zfu f y fs).2 g (wi g fun z => hg ?_)
   show (if g = f then some u else mA g) = none
   rw [if_neg q]; exact z
theorem Inv.made (I : Inv X pins σ H s) : Inv X pins σ (upd (upd H s.heap.objs.size (.own (s.heap.objs.size + 1))) (s.heap.objs.size + 1) (.ins C s.heap.objs.size []))
  { s with heap := (s.heap.push PySem.W.emptyDict).push (PySem.W.instObj C s.heap.objs.size) } := by
 have e1 : (s.heap.push PySem.W.emptyDict).get? s.heap.objs.size = some PySem.W.emptyDict := Heap.get?_push_size s.heap rfl
 have e2 : ((s.heap.push PySem.W.emptyDict).push (PySem.W.instObj C s.heap.objs.size)).get? (s.heap.objs.size + 1) = some (PySem.W.instObj C s.heap.objs.size) := by
  have := Heap.get?_push_size (s.heap.push PySem.W.emptyDict) (o:=PySem.W.instObj C s.heap.objs.size) rfl
  rwa [Heap.size_push] at this
 have e3 : (s.heap.push PySem.W.emptyDict).Ns s.heap.objs.size (fun _ => none) := ⟨PySem.W.emptyDict, #[], _, e1, rfl, (fun e he => absurd he (by simp)), fun _ => rfl⟩
 have I1 := I.laid (a:=s.heap.objs.size) (o:=.own (s.heap.objs.size + 1)) (h':=s.heap.push PySem.W.emptyDict) (t':=s.toks) (fun b u q => Heap.get?_push_of_some _ q) (Nat.le_refl _) ⟨_, e1⟩
 refine I1.laid (a:=s.heap.objs.size + 1) (o:=.ins C s.heap.objs.size []) (t':=s.toks) (fun b u q => Heap.get?_push_of_some _ q) (Nat.le_of_eq (Heap.size_push _ _)) ?_
 have ne : s.heap.objs.size ≠ s.heap.objs.size + 1 := Nat.ne_of_lt (Nat.lt_succ_self _)
 refine ⟨by rw [zaj ne, zah], Nat.zero_le _, ne, e2, fun _ => none, (Heap.Ns1.of_empty e3).at fun o q => Heap.get?_push_of_some _ q, fun _ => True.intro, fun y hy => absurd rfl hy⟩
theorem zns {prog : Program} {w : World} {env : Env} {e : Expr} {f : Str} {pos : Pos} {s : Shared} {Q : Value -> Shared -> Prop} (hb : attributeBase e f env (eval e env) = eval e env)
  (h : wpAny (model prog w) A (eval e env) (fun o s₁ => wpAny (model prog w) A (getAttr o f true) Q E s₁) E s) : wpAny (model prog w) A (eval (.Attribute e f pos) env) Q E s :=
 Attribute_any_ h (by rw [arm_eval_Attribute, hb])
end
noncomputable def tFld (K : PySem.W.Frag) (ta : TE) (f : Str) : TE := fun σ H Q => ta σ H fun x H1 => ∃ a C dx fs v, x = .ref a /\ H1 a = some (.ins C dx fs) /\ Cls K C /\ zbu K C f /\ fs.lookup f = some v /\ Q v H1
noncomputable def sFld (K : PySem.W.Frag) (ta tv : TE) (f : Str) : TS := fun D σ H => tv σ H fun y H1 => ta σ H1 fun x H2 => ∃ a C dx fs, x = .ref a /\ H2 a = some (.ins C dx fs) /\ Cls K C /\ zbu K C f /\ fs.length < 1000 /\
 D.nx σ (upd H2 a (.ins C dx (putF f y fs)))
section
variable {X : Cx} {o e value : Expr} {f : Str} {pos pos' tpos : Pos} {ta tv : TE}
theorem zr7 (he : PE X e ta) (hb : attributeBase e f X.env (eval e X.env) = eval e X.env) : PE X (.Attribute e f pos) (tFld X.K ta f) := by
 intro pins s σ H Q I h
 refine zns hb (thn (he pins s σ H _ I h) fun u s1 hz9 => ?_)
 obtain ⟨x, H1, I1, rx, a, C, dx, fs, v, ex, ea, c, n, l, q⟩ := hz9
 subst ex
 obtain rfl : u = Value.ref a := rx
 exact zlr I1 ea c n l fun u' s2 I2 ru => ⟨v, H1, I2, ru, q⟩
theorem zdr (ha : PE X o ta) (hv : PE X value tv) (hs : swapsWith value (some (.Attribute o f pos')) pos.line X.env = pure false) : PS X (.Assign [.Attribute o f pos'] value pos) (sFld X.K ta tv f) := by
 intro pins s σ H D I h
 refine plainObj_wpAny_Assign_Attribute (thn (hv pins s σ H _ I h) fun u s1 ⟨y, H1, I1, ry, q⟩ => thn (ha pins s1 σ H1 _ I1 q) fun ov s2 hz9 => ?_) hs
 obtain ⟨x, H2, I2, rx, a, C, dx, fs, ex, ea, c, n, l, q2⟩ := hz9
 subst ex
 obtain rfl : ov = Value.ref a := rx
 exact zlo I2 ea c n l ry fun s3 I3 => ⟨σ, _, I3, q2⟩
end
section
variable {X : Cx} {pins : List (Addr × Obj)} {σ : St} {H : Hp} {s : Shared} {A : Around} {E : Value -> Shared -> Prop} {Q : Value -> Shared -> Prop} {c : Value} {b : Bool}
inductive TyOf (K : PySem.W.Frag) (H : Hp) : V -> Value -> Prop where
 | non : TyOf K H .non (.type "NoneType")
 | bl (x : Bool) : TyOf K H (.bl x) (.type "bool")
 | int (i : Int) : TyOf K H (.int i) (.type "int")
 | str (x : Str) : TyOf K H (.str x) (.type "str")
 | flt (x : UInt64) : TyOf K H (.flt x) (.type "float")
 | lst {a : Addr} {xs : List V} (e : H a = some (.lst xs)) : TyOf K H (.ref a) (.type "list")
 | frz {a : Addr} {o : Obj} {xs : List V} (e : H a = some (.frz o (.lst xs))) : TyOf K H (.ref a) (.type "list")
 | tup {a : Addr} {xs : List V} (e : H a = some (.tup xs)) : TyOf K H (.ref a) (.type "tuple")
 | dK {a : Addr} {kvs : List (Key × V)} (e : H a = some (.dK kvs)) : TyOf K H (.ref a) (.type "dict")
 | dT {a : Addr} {kvs : List (List Key × V)} (e : H a = some (.dT kvs)) : TyOf K H (.ref a) (.type "dict")
 | ins {a C dx : Addr} {fs : List (Str × V)} (e : H a = some (.ins C dx fs)) (cl : Cls K C) (ha : PySem.W.findIn K (.ref C) "__class__" = some (some (.builtin "object.__class__")))
   (hn : PySem.W.specialIn K (.builtin "object.__class__") "__get__" = some (some (.builtin "getset_descriptor.__get__"))) (htk : PySem.W.takesIn K (.builtin "object.__class__") = some true)
   (hm : PySem.W.mroIn K C (.type "object") = some true) : TyOf K H (.ref a) (.ref C)
end
end L2
namespace L2
open PySem PySem.Spec PyProof.Rows
structure Room (k : Nat) (A : Around) : Prop where
 hd : A.handled = none
 dp : A.depth + 3 * k + 5 < recursionLimit
 un : A.units + 16 * k + 200 < cLine
 gd : A.guards = some []
theorem Room.mono {j k : Nat} {A : Around} (r : Room k A) (h : j <= k) : Room j A := ⟨r.hd, by have := r.dp; lia, by have := r.un; lia, r.gd⟩
theorem Room.deeper {k : Nat} {A : Around} (r : Room (k + 1) A) (env : Env) : Room k (A.deeper env) :=
 ⟨r.hd, by have := r.dp; show A.depth + 1 + 3 * k + 5 < _; lia, by have := r.un; show A.units + 3 + 16 * k + 200 < _; lia, r.gd⟩
theorem zgw {A : Around} {C : Addr} {us : List Value} {kw : List (Str × Value)} : (A.under (.builtin "type.__call__" ⟨.ref C :: us, kw⟩)).depth = A.depth + 1 := by
 first | rfl | simp [Around.under, Code.weight, Code.isCreation, Code.isGuard, Code.isCaller, Code.frames, Code.isFrame, guardIds]
theorem zgx {A : Around} {C : Addr} {us : List Value} {kw : List (Str × Value)} : (A.under (.builtin "type.__call__" ⟨.ref C :: us, kw⟩)).units = A.units + 1 := by
 first | rfl | simp [Around.under, Code.cUnits, Code.frames, Code.isFrame]
theorem Room.make {k : Nat} {A : Around} (r : Room (k + 1) A) (C : Addr) (us : List Value) (kw : List (Str × Value)) : Room k (A.under (.builtin "type.__call__" ⟨.ref C :: us, kw⟩)) :=
 ⟨r.hd, by have := r.dp; rw [zgw]; lia, by have := r.un; rw [zgx]; lia, r.gd⟩
theorem Room.depth {k : Nat} {A : Around} (r : Room k A) : A.depth < recursionLimit := by have := r.dp; lia
theorem Room.units {k : Nat} {A : Around} (r : Room k A) : A.units + 64 < cLine := by have := r.un; lia
noncomputable def tNil : TA := fun _ H Q => Q [] H
noncomputable def zbf (ta : TE) (tr : TA) : TA := fun σ H Q => ta σ H fun x H1 => tr σ H1 fun xs H2 => Q (x :: xs) H2
section
variable {X : Cx} {e : Expr} {es : List Expr} {te : TE} {t : TA} {pos : Pos}
theorem zag : PA X [] tNil := fun _ _ _ _ H Q I h => Calls.spliced_nil ⟨[], H, I, .nil, h⟩
theorem zab (ha : PE X e te) (hr : PA X es t) (hs : starEach (e :: es) X.env = (false, eval e X.env) :: starEach es X.env := by rfl) : PA X (e :: es) (zbf te t) := by
 intro pos pins s σ H Q I h
 rw [hs]
 show wpAny _ _ (spliced ((false, eval e X.env) :: backTo pos (starEach es X.env))) _ _ s
 refine Calls.spliced_cons (thn (ha pins s σ H _ I h) fun u s1 hz9 => ?_)
 obtain ⟨x, H1, I1, r1, q1⟩ := hz9
 refine thn (hr pos pins s1 σ H1 _ I1 q1) fun us s2 hz9 => ?_
 obtain ⟨xs, H2, I2, r2, q2⟩ := hz9
 exact ⟨x :: xs, H2, I2, .cons r1 r2, q2⟩
noncomputable def tTup (t : TA) : TE := fun σ H Q => t σ H fun xs H1 => xs.length <= sizeLine /\ ∀ p, H1 p = none -> Q (.ref p) (upd H1 p (.tup xs))
noncomputable def tLst (t : TA) : TE := fun σ H Q => t σ H fun xs H1 => xs.length <= sizeLine /\ ∀ p, H1 p = none -> Q (.ref p) (upd H1 p (.lst xs))
theorem zo9 {x1} (h : PA X es t) : PE X (.Tuple es x1 pos) (tTup t) := by
 intro pins s σ H Q I hq
 refine wpAny_Tuple_spliced (thn (h pos pins s σ H _ I hq) fun us s1 ⟨xs, H1, I1, r, z, q⟩ => ⟨by rw [<- r.length]; exact z, ?_⟩)
 have hf : H1 s1.heap.objs.size = none := I1.hok.fresh (Nat.le_refl _)
 refine ⟨.ref s1.heap.objs.size, upd H1 s1.heap.objs.size (.tup xs), I1.laid (t':=s1.toks) (fun b u e => Heap.get?_push_of_some _ e) (Nat.le_refl _) ?_, rfl, q _ hf⟩
 exact ⟨z, us, r, ⟨_, Heap.get?_push_size _ rfl, rfl, _, rfl⟩⟩
theorem zdt (h : PA X es t) : PE X (.List es pos) (tLst t) := by
 intro pins s σ H Q I hq
 refine wpAny_List_spliced (thn (h pos pins s σ H _ I hq) fun us s1 ⟨xs, H1, I1, r, z, q⟩ => ⟨by rw [<- r.length]; exact z, ?_⟩)
 have hf : H1 s1.heap.objs.size = none := I1.hok.fresh (Nat.le_refl _)
 refine ⟨.ref s1.heap.objs.size, upd H1 s1.heap.objs.size (.lst xs), I1.laid (t':=s1.toks) (fun b u e => Heap.get?_push_of_some _ e) (Nat.le_refl _) ?_, rfl, q _ hf⟩
 exact ⟨z, us, 0, r, Heap.get?_push_size _ rfl⟩
end
noncomputable abbrev Sp := List V -> Hp -> VK -> XK -> Prop
noncomputable abbrev CXT := List Env -> Hp -> Shared -> XK -> Value -> Shared -> Prop
structure Env0 (P : Program) (w : World) (K : PySem.W.Frag) (mg : Str -> Option Value) (base : Heap) (A : Around) (outer : List Env) (s : Shared) (H : Hp) : Prop where
 frames : A.frames = some outer
 mod : Mod K mg base
 bs : ∀ b o, base.get? b = some o -> s.heap.get? b = some o /\ H b = none
 bsz : base.objs.size <= s.heap.objs.size
 funs : s.heap.FunFrames base outer
 frf : ∀ b ∈ frs outer, H b = none
 hok : HOk P w H s.heap
 bare : AllBare s.gens
noncomputable def CE (outer : List Env) (P : Program) (w : World) (H : Hp) (s : Shared) (Q : VK) (u : Value) (s' : Shared) : Prop :=
 ∃ v H', s'.os = s.os /\ AllBare s'.gens /\ Un (frs outer) [] H H' s.heap s'.heap /\ HOk P w H' s'.heap /\ RelV v u /\ Q v H'
noncomputable def CR (CX : CXT) (outer : List Env) (P : Program) (w : World) (H : Hp) (s : Shared) (Q : VK) (E : XK) (r : Result) (s' : Shared) : Prop :=
 match r with
 | .ok (.ret u) => CE outer P w H s Q u s'
 | .ok _ => False
 | .error e => CX outer H s E e s'
structure FnOk (P : Program) (w : World) (K : PySem.W.Frag) (mg : Str -> Option Value) (base : Heap) (CX : CXT) (k : Nat) (f : Addr) (fd : FuncData) (ps : List Str) (sp : Sp) : Prop where
 len : ∀ vs H Q E, sp vs H Q E -> vs.length = ps.length
 run : ∀ (A : Around) (outer : List Env) (s : Shared) (H : Hp) (args : Args) (us : List Value) (vs : List V) (Q : VK) (E : XK), Room k A -> Env0 P w K mg base A outer s H -> BindsTo s fd args (ps.zip us) -> Vals vs us -> sp vs H Q E ->
  codeAny (model P w) A (.call (.ref f) args) (CR CX outer P w H s Q E) s
theorem FnOk.mono {P : Program} {w : World} {K : PySem.W.Frag} {mg : Str -> Option Value} {base : Heap} {CX : CXT} {j k : Nat} {f : Addr} {fd : FuncData} {ps : List Str} {sp : Sp} (F : FnOk P w K mg base CX j f fd ps sp) (h : j <= k) :
  FnOk P w K mg base CX k f fd ps sp := ⟨F.len, fun A outer s H args us vs Q E hr => F.run A outer s H args us vs Q E (hr.mono h)⟩
theorem Env0.make {P : Program} {w : World} {K : PySem.W.Frag} {mg : Str -> Option Value} {base : Heap} {A : Around} {outer : List Env} {s : Shared} {H : Hp} (e : Env0 P w K mg base A outer s H) (C : Addr) (us : List Value) (kw : List (Str × Value)) :
  Env0 P w K mg base (A.under (.builtin "type.__call__" ⟨.ref C :: us, kw⟩)) outer s H := ⟨by first | exact e.frames | (simpa [Around.under, Code.envs, Code.isFrame, pushEnvs] using e.frames), e.mod, e.bs, e.bsz, e.funs, e.frf, e.hok, e.bare⟩
section
variable {X : Cx} {pins : List (Addr × Obj)} {σ : St} {H : Hp} {s s' : Shared}
theorem Inv.env0 (I : Inv X pins σ H s) : Env0 X.prog X.w X.K X.mg X.base X.A X.stack s H :=
 ⟨I.ok.frames, I.ok.mod, I.bs, Nat.le_trans I.ok.bsz I.sz, I.stack, I.stkFree, I.hok, I.bare⟩
theorem Inv.after {Q : VK} {u : Value} (I : Inv X pins σ H s) (h : CE X.stack X.prog X.w H s Q u s') : EP X pins σ Q u s' := by
 obtain ⟨v, H', os, bare, un, hok, r, q⟩ := h
 obtain ⟨hh, g, d, t, os'⟩ := s'
 obtain rfl : os' = s.os := os
 exact ⟨v, H', I.call (h':=hh) (g':=g) (d':=d) (t':=t) (ch:=[]) un hok bare (fun b z => absurd z (by simp)), r, q⟩
end
noncomputable def zex (sp : Sp) (dvs : List V) (E : XK) (t : TA) : TE := fun σ H Q => t σ H fun vs H1 => sp (vs ++ dvs) H1 Q E
noncomputable def zpo (C : Addr) (sp : Sp) (dvs : List V) (E : XK) (t : TA) : TE := fun σ H Q => t σ H fun vs H1 => ∀ x dx, H1 x = none -> H1 dx = none -> dx ≠ x ->
 sp (.ref x :: (vs ++ dvs)) (upd (upd H1 dx (.own x)) x (.ins C dx [])) (fun v H2 => v = .non /\ Q (.ref x) H2) E
noncomputable def zbw (K : PySem.W.Frag) (fd : FuncData) (ps : List Str) (ds : List Value) : Prop :=
 ∀ (s : Shared) (us : List Value), K.In s.heap -> (us ++ ds).length = ps.length -> BindsTo s fd ⟨us, []⟩ (ps.zip (us ++ ds))
theorem zbw.all {K : PySem.W.Frag} {fd : FuncData} {ps : List Str} (h : ∀ us : List Value, us.length = ps.length -> bindArgs fd ⟨us, []⟩ = pure (ps.zip us)) : zbw K fd ps [] := fun s us _ hl => by
 rw [List.append_nil] at hl ⊢
 exact .of_eq (h us hl)
noncomputable def zc5 (CX : CXT) (X : Cx) (E : XK) : Prop := ∀ (pins : List (Addr × Obj)) (σ : St) (H : Hp) (s : Shared) (e : Value) (s' : Shared), Inv X pins σ H s -> CX X.stack H s E e s' -> X.xe e s'
section
variable {X : Cx} {CX : CXT} {k : Nat} {f C : Addr} {fd : FuncData} {ps : List Str} {sp : Sp} {dvs : List V} {ds : List Value} {E : XK} {x m : Str} {p pos apos : Pos} {e o : Expr} {es : List Expr} {ta : TE} {t : TA}
theorem zpd {pins : List (Addr × Obj)} {σ : St} {H : Hp} {s : Shared} {Q : VK} {us : List Value} {vs : List V} (F : FnOk X.prog X.w X.K X.mg X.base CX k f fd ps sp) (hr : Room k X.A) (hb : zbw X.K fd ps ds) (hd : Vals dvs ds) (hx : zc5 CX X E)
  (I : Inv X pins σ H s) (r : Vals vs us) (h : sp (vs ++ dvs) H Q E) : wpAny (model X.prog X.w) X.A (call (.ref f) us) (EP X pins σ Q) X.xe s := by
 have r2 : Vals (vs ++ dvs) (us ++ ds) := r.append hd
 have hl : (us ++ ds).length = ps.length := by rw [<- r2.length]; exact F.len _ _ _ _ h
 refine wpAny_call (codeAny_mono (F.run X.A X.stack s H ⟨us, []⟩ (us ++ ds) (vs ++ dvs) Q E hr I.env0 (hb s us I.kIn hl) r2 h) fun r s' hq => ?_)
 cases r with
 | error e => exact hx pins σ H s e s' I hq
 | ok fl =>
  cases fl with
  | ret u => exact I.after hq
  | next => exact False.elim hq
  | brk => exact False.elim hq
  | cont => exact False.elim hq
theorem zbv (F : FnOk X.prog X.w X.K X.mg X.base CX k f fd ps sp) (hr : Room k X.A) (hg : Gl X x) (hm : X.mg x = some (.ref f)) (hk : PySem.W.keepIn X.K (.ref f) = true) (hb : zbw X.K fd ps ds) (hd : Vals dvs ds) (hx : zc5 CX X E)
  (ha : PA X (e :: es) t) (hdb : (x == ("__debug__" : Str)) = false := by decide) (he : starEach (e :: es) X.env = (false, eval e X.env) :: starEach es X.env := by rfl) (hpl : (backTo pos (starEach es X.env)).any (·.1) = false := by rfl) :
  PE X (.Call (.Name x p) (e :: es) [] pos) (zex sp dvs E t) := by
 intro pins s σ H Q I h
 refine wpAny_Call_Name_kw (zc2 I hg hm ?_ hdb)
 refine PySem.W.callWith_K (h₀:=X.base) I.ok.mod.kin hk (thn (ha pos pins s σ H _ I h) fun us s1 ⟨vs, H1, I1, r, q⟩ => ⟨I1.kIn, ?_⟩) he hpl
 exact zpd F hr hb hd hx I1 r q
structure Mk (K : PySem.W.Frag) (C f : Addr) : Prop where
 makes : PySem.W.makesIn K C = true
 init : PySem.W.findIn K (.ref C) "__init__" = some (some (.ref f))
 fn : PySem.W.isFn K (.ref f) = true
 kp : PySem.W.keepIn K (.ref C) = true
theorem zny {pins : List (Addr × Obj)} {σ : St} {H : Hp} {s : Shared} {Q : VK} {us : List Value} {vs : List V} (M : Mk X.K C f) (F : FnOk X.prog X.w X.K X.mg X.base CX k f fd ps sp) (hr : Room (k + 1) X.A) (hb : zbw X.K fd ps ds) (hd : Vals dvs ds)
  (hx : zc5 CX X E) (I : Inv X pins σ H s) (r : Vals vs us)
  (h : ∀ x dx, H x = none -> H dx = none -> dx ≠ x -> sp (.ref x :: (vs ++ dvs)) (upd (upd H dx (.own x)) x (.ins C dx [])) (fun v H2 => v = .non /\ Q (.ref x) H2) E) :
  wpAny (model X.prog X.w) X.A (call (.ref C) us) (EP X pins σ Q) X.xe s := by
 have hq := h (s.heap.objs.size + 1) s.heap.objs.size (I.hok.fresh (Nat.le_succ _)) (I.hok.fresh (Nat.le_refl _)) (Nat.ne_of_lt (Nat.lt_succ_self _))
 have I2 := Inv.made (C:=C) I
 have r2 : Vals (V.ref (s.heap.objs.size + 1) :: (vs ++ dvs)) (Value.ref (s.heap.objs.size + 1) :: (us ++ ds)) := .cons rfl (r.append hd)
 have hl : (Value.ref (s.heap.objs.size + 1) :: us ++ ds).length = ps.length := by
  have e := r2.length
  rw [F.len _ _ _ _ hq] at e
  exact e.symm
 refine wpAny_call (zoj (f:=f) I.kIn M.makes M.init (beq_iff_eq.mp M.fn) (codeAny_mono (F.run _ X.stack _ _ ⟨Value.ref (s.heap.objs.size + 1) :: us, []⟩ (Value.ref (s.heap.objs.size + 1) :: (us ++ ds)) _ _ E (hr.make C us [])
  (I2.env0.make C us []) (hb _ (Value.ref (s.heap.objs.size + 1) :: us) I2.kIn hl) r2 hq) fun r s' hq' => ?_))
 cases r with
 | error e => exact hx pins σ _ _ e s' I2 hq'
 | ok fl =>
  cases fl with
  | ret u =>
   obtain ⟨v, H', I3, rv, ev, q3⟩ := I2.after hq'
   subst ev
   exact ⟨rv, ⟨V.ref (s.heap.objs.size + 1), H', I3, rfl, q3⟩⟩
  | next => exact False.elim hq'
  | brk => exact False.elim hq'
  | cont => exact False.elim hq'
theorem zf4 (M : Mk X.K C f) (F : FnOk X.prog X.w X.K X.mg X.base CX k f fd ps sp) (hr : Room (k + 1) X.A) (hg : Gl X x) (hm : X.mg x = some (.ref C)) (hb : zbw X.K fd ps ds) (hd : Vals dvs ds) (hx : zc5 CX X E)
  (ha : PA X (e :: es) t) (hdb : (x == ("__debug__" : Str)) = false := by decide) (he : starEach (e :: es) X.env = (false, eval e X.env) :: starEach es X.env := by rfl) (hpl : (backTo pos (starEach es X.env)).any (·.1) = false := by rfl) :
  PE X (.Call (.Name x p) (e :: es) [] pos) (zpo C sp dvs E t) := by
 intro pins s σ H Q I h
 refine wpAny_Call_Name_kw (zc2 I hg hm ?_ hdb)
 refine PySem.W.callWith_K (h₀:=X.base) I.ok.mod.kin M.kp (thn (ha pos pins s σ H _ I h) fun us s1 ⟨vs, H1, I1, r, q⟩ => ⟨I1.kIn, ?_⟩) he hpl
 exact zny M F hr hb hd hx I1 r q
end
noncomputable def PK (X : Cx) (kws : List Keyword) (t : TA) : Prop :=
 ∀ (pos : Pos) (pins : List (Addr × Obj)) (s : Shared) (σ : St) (H : Hp) (Q : List V -> Hp -> Prop), Inv X pins σ H s -> t σ H Q -> wpAny (model X.prog X.w) X.A (evalAll ((backToKw pos (keywordEach kws X.env)).map (·.2))) (AP X pins σ Q) X.xe s
section
variable {X : Cx} {CX : CXT} {k : Nat} {f C : Addr} {fd : FuncData} {ps ks : List Str} {sp : Sp} {E : XK} {x m : Str} {p pos apos kpos : Pos} {e o : Expr} {es : List Expr} {kws : List Keyword} {te ta : TE} {t tk : TA} {nm : Option Str}
theorem zrl : PK X [] tNil := fun _ _ _ _ H Q I h => wpAny_evalAll_nil ⟨[], H, I, .nil, h⟩
theorem zp7 (ha : PE X e te) (hr : PK X kws t) : PK X (⟨nm, e, kpos⟩ :: kws) (zbf te t) := by
 intro pos pins s σ H Q I h
 show wpAny _ _ (evalAll ((do let v <- eval e X.env; standAt pos; pure v) :: (backToKw pos (keywordEach kws X.env)).map (·.2))) _ _ s
 refine wpAny_evalAll_cons (wpAny_bind (thn (ha pins s σ H _ I h) fun u s1 ⟨x, H1, I1, r1, q1⟩ => wpAny_bind (wpAny_standAt (wpAny_pure ?_))))
 refine thn (hr pos pins s1 σ H1 _ I1 q1) fun us s2 hz9 => ?_
 obtain ⟨xs, H2, I2, r2, q2⟩ := hz9
 exact ⟨x :: xs, H2, I2, .cons r1 r2, q2⟩
structure KBinds (K : PySem.W.Frag) (fd : FuncData) (ps ks : List Str) (g : List Value -> List Value -> List Value) (gV : List V -> List V -> List V) : Prop where
 to : ∀ (s : Shared) (us ws : List Value), K.In s.heap -> (g us ws).length = ps.length -> BindsTo s fd ⟨us, ks.zip ws⟩ (ps.zip (g us ws))
 rel : ∀ {vs : List V} {us : List Value} {zs : List V} {ws : List Value}, Vals vs us -> Vals zs ws -> Vals (gV vs zs) (g us ws)
variable {g : List Value -> List Value -> List Value} {gV : List V -> List V -> List V}
end
structure FnScope (N P : List Str) (sc : Scope) : Prop where
 kind : sc.kind = .function
 co : sc.isCoroutine = false
 gen : sc.isGenerator = false
 nd : N.Nodup
 pre : N.take P.length = P
 par : ∀ x ∈ P, sc.names.lookup x = some .local \/ sc.names.lookup x = some .cell
 nofree : ∀ y ∈ sc.names, y.2 ≠ .free
theorem zjn {kindOf : Str -> Option NameKind} {x : Str} : ∀ {binds : List (Str × Value)} {m : Str -> Option Value}, (∀ v, (x, v) ∉ binds) -> bindL kindOf binds m x = m x
 | [], _, _ => rfl
 | (n, v) :: r, m, h => by
  unfold bindL
  rw [zjn fun w hw => h w (List.mem_cons_of_mem _ hw)]
  split
  ·have : x ≠ n := by rintro rfl; exact h v List.mem_cons_self
   simp [this]
  ·rfl
theorem zim {kindOf : Str -> Option NameKind} {x : Str} : ∀ {binds : List (Str × Value)} {m : Str -> Option Value}, (∀ v, (x, v) ∉ binds) -> bindC kindOf binds m x = m x
 | [], _, _ => rfl
 | (n, v) :: r, m, h => by
  unfold bindC
  rw [zim fun w hw => h w (List.mem_cons_of_mem _ hw)]
  split
  ·rfl
  ·have : x ≠ n := by rintro rfl; exact h v List.mem_cons_self
   simp [this]
theorem zf1 {kindOf : Str -> Option NameKind} {x : Str} {v : Value} : ∀ {P : List Str} {vs : List Value} {i : Nat} {m : Str -> Option Value}, P.Nodup -> P[i]? = some x -> vs[i]? = some v -> kindOf x = some .local ->
  bindL kindOf (P.zip vs) m x = some v
 | [], _, _, _, _, h, _, _ => by simp at h
 | _ :: _, [], _, _, _, _, h, _ => by simp at h
 | p :: P, w :: vs, 0, m, nd, h1, h2, hk => by
  simp at h1 h2; subst h1; subst h2
  show bindL kindOf ((p, w) :: P.zip vs) m p = _
  unfold bindL
  rw [zjn fun v hv => (List.nodup_cons.mp nd).1 (List.of_mem_zip hv).1, if_pos hk]
  simp
 | p :: P, w :: vs, i + 1, m, nd, h1, h2, hk => by
  show bindL kindOf ((p, w) :: P.zip vs) m x = _
  unfold bindL
  exact zf1 (i:=i) (List.nodup_cons.mp nd).2 (by simpa using h1) (by simpa using h2) hk
theorem zfg {kindOf : Str -> Option NameKind} {x : Str} {v : Value} : ∀ {P : List Str} {vs : List Value} {i : Nat} {m : Str -> Option Value}, P.Nodup -> P[i]? = some x -> vs[i]? = some v -> kindOf x ≠ some .local ->
  bindC kindOf (P.zip vs) m x = some v
 | [], _, _, _, _, h, _, _ => by simp at h
 | _ :: _, [], _, _, _, _, h, _ => by simp at h
 | p :: P, w :: vs, 0, m, nd, h1, h2, hk => by
  simp at h1 h2; subst h1; subst h2
  show bindC kindOf ((p, w) :: P.zip vs) m p = _
  unfold bindC
  rw [zim fun v hv => (List.nodup_cons.mp nd).1 (List.of_mem_zip hv).1, if_neg hk]
  simp
 | p :: P, w :: vs, i + 1, m, nd, h1, h2, hk => by
  show bindC kindOf ((p, w) :: P.zip vs) m x = _
  unfold bindC
  exact zfg (i:=i) (List.nodup_cons.mp nd).2 (by simpa using h1) (by simpa using h2) hk
noncomputable def start (N : List Str) (vs : List V) : St := vs.map some ++ List.replicate (N.length - vs.length) none
noncomputable def cxOf (CX : CXT) (P : Program) (w : World) (K : PySem.W.Frag) (mg : Str -> Option Value) (base : Heap) (N : List Str) (qual : Str) (scope : Scope) (f : Addr) (cd : Value) (A : Around) (outer : List Env) (s : Shared) (H : Hp) (E : XK) : Cx where
 prog := P
 w := w
 K := K
 mg := mg
 base := base
 A := A.deeper (envOfC qual scope s.heap.objs.size f cd)
 N := N
 s₀ := s
 H₀ := H
 env := envOfC qual scope s.heap.objs.size f cd
 outer := outer
 stack := envOfC qual scope s.heap.objs.size f cd :: outer
 ex := []
 calm := true
 fn := fun _ => true
 pn := []
 xe := fun e s' => wpAny (model P w) (A.deeper (envOfC qual scope s.heap.objs.size f cd)) (leaving (envOfC qual scope s.heap.objs.size f cd) e) (fun _ s'' => CX outer H s E e s'') (fun e' s'' => CX outer H s E e' s'') s'
theorem zfb {sc : Scope} {n : Nat} {x : Str} (h : sc.names.lookup x = some .cell) : ∃ c, (cellsFrom n sc.names []).lookup x = some c := by
 have q := PySem.W.cellsFrom_some sc.names n [] (.inl h)
 exact Option.isSome_iff_exists.mp q
theorem zmk {CX : CXT} {P : Program} {w : World} {K : PySem.W.Frag} {mg : Str -> Option Value} {base : Heap} {N ps : List Str} {qual : Str} {scope : Scope} {f : Addr} {cd : Value} {A : Around} {outer : List Env} {s s1 : Shared} {H : Hp} {E : XK} {us : List Value} {vs : List V}
  (S : FnScope N ps scope) (hd : A.handled = none) (e0 : Env0 P w K mg base A outer s H) (hl : vs.length = ps.length) (r : Vals vs us)
  (x : InCallC s s.heap.objs.size (bindL (envOfC qual scope s.heap.objs.size f cd).kindOf (ps.zip us) fun _ => none) (cellsFrom (s.heap.objs.size + 1) scope.names []) (bindC (envOfC qual scope s.heap.objs.size f cd).kindOf (ps.zip us) fun _ => none) s1) :
  Inv (cxOf CX P w K mg base N qual scope f cd A outer s H E) [] (start N vs) H s1 := by
 have hpl : ps.length <= N.length := by have := congrArg List.length S.pre; rw [List.length_take] at this; lia
 obtain ⟨h1, tk, rfl, hk⟩ := x.done
 have noA : ∀ b : Addr, b ∉ (cxOf CX P w K mg base N qual scope f cd A outer s H E).ex := fun b z => absurd (show b ∈ ([] : List Addr) from z) (by simp)
 refine ⟨⟨e0.mod, S.kind, rfl, rfl, Nat.le_refl _, fun y z c h1 h2 => ?_, fun y hy => ?_, fun y c _ h => ?_, fun _ => hd, Around.frames_deeper e0.frames, .inr ⟨rfl, rfl⟩, fun b z => absurd z (noA b), e0.bs, e0.bsz, fun b _ _ => noA b, fun b z => absurd z (noA b), e0.funs, e0.frf⟩,
  rfl, e0.bare, Un.kept hk, ⟨_, x.toInCall.ns, fun i y v h1 h2 h3 => ?_⟩, fun y c h => ⟨_, x.cell y c h⟩, e0.hok.fresh (Nat.le_refl _), fun y c h => ?_, fun p hp => absurd (show p ∈ ([] : List (Addr × Obj)) from hp) (by simp), e0.hok.kept hk, ?_⟩
 ·exact name_of_addr x.apart (PySem.mem_of_lookup h1) (PySem.mem_of_lookup h2)
 ·have hy : scope.names.lookup y = some .cell \/ scope.names.lookup y = some .free := hy
  rcases hy with hy | hy
  ·exact zfb hy
  ·exact absurd rfl (S.nofree _ (PySem.mem_of_lookup hy))
 ·exact Nat.le_of_lt (x.above y c (PySem.mem_of_lookup h))
 ·have hi : i < vs.length := by
   unfold start at h2
   by_cases hi : i < vs.length
   ·exact hi
   ·rw [List.getElem?_append_right (by simpa using hi)] at h2
    rw [List.getElem?_replicate] at h2
    split at h2 <;> cases h2
  have ha : vs[i]? = some v := by
   unfold start at h2
   rw [List.getElem?_append_left (by simpa using hi), List.getElem?_map] at h2
   cases e : vs[i]? with
   | none => rw [e] at h2; cases h2
   | some a => rw [e] at h2; cases h2; rfl
  obtain ⟨u, hu, rv⟩ := r.get ha
  have hp : ps[i]? = some y := by
   rw [<- S.pre, List.getElem?_take_of_lt (by lia)]; exact h1
  have ndP : ps.Nodup := by rw [<- S.pre]; exact S.nd.sublist (List.take_sublist _ _)
  refine ⟨u, rv, ?_⟩
  rcases S.par y (List.mem_of_getElem? hp) with k | k
  ·exact .inl ⟨k, zf1 ndP hp hu k⟩
  ·obtain ⟨c, e⟩ := zfb (n:=s.heap.objs.size + 1) k
   refine .inr ⟨.inl k, c, e, ?_⟩
   have q := x.cell y c e
   rw [zfg ndP hp hu (by show scope.names.lookup y ≠ _; rw [k]; decide)] at q
   exact q
 ·exact e0.hok.fresh (Nat.le_of_lt (x.above y c (PySem.mem_of_lookup h)))
 ·unfold start
  show _ = N.length
  rw [List.length_append, List.length_map, List.length_replicate]
  lia
theorem zrb {CX : CXT} {P : Program} {w : World} {K : PySem.W.Frag} {mg : Str -> Option Value} {base : Heap} {k : Nat} {f : Addr} {name qual : Str} {params : Arguments} {body : List Stmt} {scope : Scope} {dV kV doc pm cdv ct oc : Value} {an od : Option Addr}
  {osl : Array (Option Value)} {N ps : List Str} {sp : Sp} (lk : K.lookup f = some ⟨oc, od, .func (PySem.W.fnOf name qual params body scope dV kV doc pm an cdv ct), osl⟩) (hcd : PySem.W.codeIn K cdv qual = true) (S : FnScope N ps scope)
  (len : ∀ vs H Q E, sp vs H Q E -> vs.length = ps.length)
  (hbody : ∀ (A : Around) (outer : List Env) (s : Shared) (H : Hp) (vs : List V) (Q : VK) (E : XK), Room k (A.deeper (envOfC qual scope s.heap.objs.size f cdv)) -> sp vs H Q E ->
   ∃ t, PSs (cxOf CX P w K mg base N qual scope f cdv A outer s H E) body t /\ t { nx := fun _ H' => Q .non H', rt := Q } (start N vs) H) :
  FnOk P w K mg base CX (k + 1) f (PySem.W.fnOf name qual params body scope dV kV doc pm an cdv ct) ps sp := by
 refine ⟨len, fun A outer s H args us vs Q E hr e0 hb r hsp => ?_⟩
 have hl := len _ _ _ _ hsp
 have KX : K.In s.heap := e0.mod.kin.keeps fun b o e => (e0.bs b o e).1
 have lim : s.heap.NoLimit := e0.mod.nolimit.keeps fun b o e => (e0.bs b o e).1
 have hkind : ∀ y ∈ ps.zip us, scope.names.lookup y.1 = some .local \/ (scope.names.lookup y.1 = some .cell /\ ((cellsFrom (s.heap.objs.size + 1) scope.names []).lookup y.1).isSome = true) := fun ⟨n, v⟩ hy => by
  rcases S.par n (List.of_mem_zip hy).1 with q | q
  ·exact .inl q
  ·exact .inr ⟨q, PySem.W.cellsFrom_some _ _ _ (.inl q)⟩
 refine codeAny_call_function hr.depth (KX _ _ lk) rfl S.co S.gen rfl (PySem.W.codeRec_of KX hcd) (hb _ _ _ _ ?_)
 refine wpAny_newFunctionEnv_cells S.kind hkind fun env he s1 x => ?_
 subst he
 refine ⟨lim.keeps x.toInCall.keep, codeAny_func ?_⟩
 obtain ⟨t, ht, hq⟩ := hbody A outer s H vs Q E (hr.deeper _) hsp
 have I : Inv (cxOf CX P w K mg base N qual scope f cdv A outer s H E) [] (start N vs) H s1 := zmk S hr.hd e0 hl r x
 refine wpAny_mono (ht [] s1 (start N vs) H _ I hq) (fun fl s' hs => ?_) fun e s' hs => hs
 have fin : ∀ {σ' : St} {H' : Hp} {v : V} {u : Value}, Inv (cxOf CX P w K mg base N qual scope f cdv A outer s H E) [] σ' H' s' -> RelV v u -> Q v H' -> CE outer P w H s Q u s' :=
  fun {σ' H' v u} J rv q => ⟨v, H', J.os, J.bare, J.base, J.hok, rv, q⟩
 cases fl with
 | ret u =>
  obtain ⟨v, σ', H', J, rv, q⟩ := hs
  exact fin J rv q
 | next =>
  obtain ⟨σ', H', J, q⟩ := hs
  exact fin (v:=V.non) (u:=Value.none) J rfl q
 | brk =>
  obtain ⟨_, _, _, q⟩ := hs
  exact False.elim q
 | cont =>
  obtain ⟨_, _, _, q⟩ := hs
  exact False.elim q
end L2
namespace L2
open PySem PySem.Spec PyProof.Rows
section
variable {X : Cx} {x : Str} {p pos : Pos} {e : Expr} {es : List Expr} {t : TA} {id T : String} {r : List V -> Hp -> VK -> Prop}
noncomputable def tCB (r : List V -> Hp -> VK -> Prop) (t : TA) : TE := fun σ H Q => t σ H fun vs H1 => r vs H1 Q
theorem za8 (hc : zco X (.builtin id) r) (hg : Gl X x) (hm : X.mg x = none) (hv : bootBuiltins x = some (.builtin id)) (ha : PA X (e :: es) t) (hn : x ≠ "__name__" := by decide) (hdb : (x == ("__debug__" : Str)) = false := by decide)
  (he : starEach (e :: es) X.env = (false, eval e X.env) :: starEach es X.env := by rfl) (hpl : (backTo pos (starEach es X.env)).any (·.1) = false := by rfl) : PE X (.Call (.Name x p) (e :: es) [] pos) (tCB r t) := by
 intro pins s σ H Q I h
 refine wpAny_Call_Name_kw (zjc I hg hm hv ?_ hn hdb)
 exact PyProof.Rows.callWith_builtin1 (thn (ha pos pins s σ H _ I h) fun us s1 ⟨vs, H1, I1, r1, q1⟩ => hc pins s1 σ H1 vs us Q I1 r1 q1) he hpl
theorem zd5 (hc : zco X (.type T) r) (hg : Gl X x) (hm : X.mg x = none) (hv : bootBuiltins x = some (.type T)) (ha : PA X (e :: es) t) (hn : x ≠ "__name__" := by decide) (hdb : (x == ("__debug__" : Str)) = false := by decide)
  (he : starEach (e :: es) X.env = (false, eval e X.env) :: starEach es X.env := by rfl) (hpl : (backTo pos (starEach es X.env)).any (·.1) = false := by rfl) : PE X (.Call (.Name x p) (e :: es) [] pos) (tCB r t) := by
 intro pins s σ H Q I h
 refine wpAny_Call_Name_kw (zjc I hg hm hv ?_ hn hdb)
 exact PyProof.Rows.callWith_type1 (thn (ha pos pins s σ H _ I h) fun us s1 ⟨vs, H1, I1, r1, q1⟩ => hc pins s1 σ H1 vs us Q I1 r1 q1) he hpl
end
end L2
namespace HT
open PySem PyProof.Rows
section
open PySem.SeqAt
open PySem.AutoSeq1 (wpAny_loadPart')
open PySem.MeetsSeq PySem.MeetsSeq2 PySem.MeetsSeq3
end
section
variable {prog : Program} {w : World} {A : Around} {E : Value -> Shared -> Prop} {s : Shared}
noncomputable def sIx (n d : Nat) : Option Int -> Nat
 | none => d
 | some v => if v < 0 then (v + (n : Int)).toNat else min v.toNat n
end
end HT
namespace L2
open PySem PySem.Spec PyProof.Rows
noncomputable abbrev TO := St -> Hp -> (Option Int -> Hp -> Prop) -> Prop
noncomputable def PO (X : Cx) (e : Option Expr) (t : TO) : Prop :=
 ∀ (pins : List (Addr × Obj)) (s : Shared) (σ : St) (H : Hp) (Q : Option Int -> Hp -> Prop), Inv X pins σ H s -> t σ H Q ->
  wpAny (model X.prog X.w) X.A (evalPart e X.env) (fun u s' => ∃ o H', Inv X pins σ H' s' /\ IsPart u o /\ Q o H') X.xe s
noncomputable def zhv : TO := fun _ H Q => Q none H
noncomputable def zmc (t : TE) : TO := fun σ H Q => t σ H fun x H1 => ∃ i, x = .int i /\ Q (some i) H1
section
variable {X : Cx} {e : Expr} {te : TE} {lo hi : Option Expr} {tl th : TO} {pos p2 : Pos}
theorem zcs : PO X none zhv := by
 intro pins s σ H Q I h
 rw [evalPart_none]
 exact wpAny_pure ⟨none, H, I, .none, h⟩
theorem zhr (h : PE X e te) : PO X (some e) (zmc te) := by
 intro pins s σ H Q I hw
 rw [evalPart_some]
 refine thn (h pins s σ H _ I hw) fun u s1 hz9 => ?_
 obtain ⟨x, H1, I1, r1, q1⟩ := hz9
 obtain ⟨i, rfl, q⟩ := q1
 obtain ⟨t, rfl⟩ := r1
 exact ⟨some i, H1, I1, .int i t, q⟩
noncomputable def SlR (X : Cx) (r : V -> Option Int -> Option Int -> Hp -> VK -> Prop) : Prop :=
 ∀ (pins : List (Addr × Obj)) (s : Shared) (σ : St) (H : Hp) (x : V) (v vl vu : Value) (lo hi : Option Int) (sl : Addr) (Q : VK), Inv X pins σ H s -> RelV x v -> s.heap.IsSliceOf sl vl vu .none -> IsPart vl lo -> IsPart vu hi -> r x lo hi H Q ->
  ∃ T id, typeLookup (.type T) "__getitem__" = pure (some (.builtin id)) /\ s.TypeIs v T /\ wpAny (model X.prog X.w) X.A (getItem v (.ref sl)) (EP X pins σ Q) X.xe s
noncomputable def tSl (r : V -> Option Int -> Option Int -> Hp -> VK -> Prop) (te : TE) (tl th : TO) : TE := fun σ H Q => te σ H fun x H1 => tl σ H1 fun l H2 => th σ H2 fun u H3 => r x l u H3 Q
theorem zfd {r : V -> Option Int -> Option Int -> Hp -> VK -> Prop} (hr : SlR X r) (he : PE X e te) (hl : PO X lo tl) (hu : PO X hi th) : PE X (.Subscript e (.Slice lo hi none p2) pos) (tSl r te tl th) := by
 intro pins s σ H Q I h
 refine Subscript_ (thn (he pins s σ H _ I h) fun v s1 hz9 => ?_)
 obtain ⟨x, H1, I1, r1, q1⟩ := hz9
 refine wpAny_Slice (thn (hl pins s1 σ H1 _ I1 q1) fun vl s2 ⟨l, H2, I2, pl, q2⟩ => thn (hu pins s2 σ H2 _ I2 q2) fun vu s3 hz9 => ?_)
 obtain ⟨u, H3, I3, pu, q3⟩ := hz9
 rw [evalPart_none]
 refine wpAny_pure ?_
 have I4 : Inv X pins σ H3 { s3 with heap := s3.heap.push { cls := .type "slice", data := .fields #[vl, vu, .none] } } := I3.kept (t':=s3.toks) fun b ob q => Heap.get?_push_of_some _ q
 obtain ⟨T, id, hT, ht, hg⟩ := hr pins { s3 with heap := s3.heap.push { cls := .type "slice", data := .fields #[vl, vu, .none] } } σ H3 x v vl vu l u s3.heap.objs.size Q I4 r1 (Heap.IsSliceOf.new ..) pl pu q3
 show wpAny (model X.prog X.w) X.A (subscriptTail e (.Slice lo hi none p2) v (.ref s3.heap.objs.size)) (EP X pins σ Q) X.xe { s3 with heap := s3.heap.push { cls := .type "slice", data := .fields #[vl, vu, .none] } }
 exact tail_any (ops:=[.ref s3.heap.objs.size, v]) ht hT hg (by with_unfolding_all rfl)
noncomputable def cutV (xs : List V) (lo hi : Option Int) : List V := (xs.drop (HT.sIx xs.length 0 lo)).take (HT.sIx xs.length xs.length hi - HT.sIx xs.length 0 lo)
theorem zjt (xs : List V) (lo hi : Option Int) : (cutV xs lo hi).length <= xs.length := by
 unfold cutV
 rw [List.length_take, List.length_drop]
 lia
noncomputable def rCatT (K : PySem.W.Frag) : R2 := fun x y H Q => ∃ a b xs ys, x = .ref a /\ y = .ref b /\ SqT K H a xs /\ SqT K H b ys /\ xs ≠ [] /\ xs.length + ys.length <= sizeLine /\
 (ys = [] -> Q (.ref a) H) /\ (ys ≠ [] -> ∀ p, H p = none -> Q (.ref p) (upd H p (.tup (xs ++ ys))))
end
end L2
namespace L2
open PySem PySem.Spec PyProof.Rows
noncomputable def ixN (n : Nat) (i : Int) : Option Nat := if 0 <= i then (if i < n then some i.toNat else none) else if -(n : Int) <= i then some (i + n).toNat else none
noncomputable def atI {α : Type} (xs : List α) (i : Int) : Option α := (ixN xs.length i).bind fun j => xs[j]?
theorem zp8 {n : Nat} {i : Int} {j : Nat} (h : ixN n i = some j) : seqIndex? i n = some j /\ j < n /\ -(n : Int) <= i /\ i < n := by
 unfold ixN at h
 by_cases h0 : 0 <= i
 ·rw [if_pos h0] at h
  by_cases h1 : i < n
  ·rw [if_pos h1] at h
   have e : i.toNat = j := Option.some.inj h
   exact ⟨by rw [seqIndex_of h0 h1, e], by lia, by lia, h1⟩
  ·rw [if_neg h1] at h; cases h
 ·rw [if_neg h0] at h
  by_cases h1 : -(n : Int) <= i
  ·rw [if_pos h1] at h
   have e : (i + n).toNat = j := Option.some.inj h
   exact ⟨by rw [seqIndex_neg (by lia) h1, e], by lia, h1, by lia⟩
  ·rw [if_neg h1] at h; cases h
theorem zmw {α : Type} {xs : List α} {i : Int} {v : α} (h : atI xs i = some v) : ∃ j, seqIndex? i xs.length = some j /\ xs[j]? = some v /\ j < xs.length /\ -(xs.length : Int) <= i /\ i < xs.length := by
 unfold atI at h
 cases e : ixN xs.length i with
 | none => rw [e] at h; cases h
 | some j =>
  rw [e] at h
  obtain ⟨h1, h2, h3, h4⟩ := zp8 e
  exact ⟨j, h1, h, h2, h3, h4⟩
theorem zhz {α : Type} {xs : List α} {j : Nat} {v : α} (h : xs[j]? = some v) : atI xs (j : Int) = some v := by
 have hj : j < xs.length := (List.getElem?_eq_some_iff.mp h).1
 have e : ixN xs.length (j : Int) = some j := by
  unfold ixN
  rw [if_pos (by lia), if_pos (by lia)]; simp
 unfold atI; rw [e]; exact h
noncomputable def zne (b : Expr) : Prop := ∀ o i, subscripted b false o i = operate [o, i] (getItem o i)
noncomputable def IxR (X : Cx) (r : R2) : Prop :=
 ∀ (value slice : Expr) (pins : List (Addr × Obj)) (s : Shared) (σ : St) (H : Hp) (x y : V) (v u : Value) (Q : VK), Inv X pins σ H s -> RelV x v -> RelV y u -> r x y H Q ->
  subscripted slice false v u = operate [v, u] (getItem v u) -> wpAny (model X.prog X.w) X.A (subscriptTail value slice v u) (EP X pins σ Q) X.xe s
noncomputable def MtR (X : Cx) (id : String) (r : V -> List V -> Hp -> VK -> Prop) : Prop :=
 ∀ (pins : List (Addr × Obj)) (s : Shared) (σ : St) (H : Hp) (x : V) (xs : List V) (v : Value) (us : List Value) (Q : VK), Inv X pins σ H s -> RelV x v -> Vals xs us -> r x xs H Q ->
  wpAny (model X.prog X.w) X.A (call (.builtin id) (v :: us)) (EP X pins σ Q) X.xe s
section
variable {X : Cx} {a b : Expr} {ta tb : TE} {pos : Pos}
theorem zdo {r : R2} (hr : IxR X r) (ha : PE X a ta) (hb : PE X b tb) (hs : zne b) : PE X (.Subscript a b pos) (tOp r ta tb) := by
 intro pins s σ H Q I h
 exact Subscript_ (binT ha hb I h fun v u s2 x y H2 I2 rx ry q => hr a b pins s2 σ H2 x y v u Q I2 rx ry q (hs _ _))
noncomputable def rIxL (K : PySem.W.Frag) : R2 := fun x y H Q => ∃ p xs i v, x = .ref p /\ y = .int i /\ SqL K H p xs /\ atI xs i = some v /\ Q v H
noncomputable def rIxS : R2 := fun x y H Q => ∃ z i c, x = .str z /\ y = .int i /\ z.length <= sizeLine /\ atI z.cps.toList i = some c /\ Q (.str ⟨#[c]⟩) H
theorem za6 : IxR X (rIxL X.K) := by
 intro value slice pins s σ H x y v u Q I rx ry h hs
 obtain ⟨p, xs, i, z, rfl, rfl, hq, he, q⟩ := h
 cases rx
 obtain ⟨t, rfl⟩ := ry
 obtain ⟨its, r, pl, hz⟩ := I.list hq
 obtain ⟨j, h1, h2, h3, h4, h5⟩ := zmw he
 obtain ⟨w, ew, rw'⟩ := r.get h2
 have hl := r.length
 have hn := zkp
 have fin : EP X pins σ Q w s := ⟨z, H, I, rw', q⟩
 by_cases h0 : 0 <= i
 ·have hj : i.toNat = j := by
   rw [seqIndex_of h0 h5] at h1
   exact Option.some.inj h1
  exact item_listR pl.isList h0 (by lia) (by rw [hj]; simpa using ew) fin hs
 ·have hj : (i + (its.toArray.size : Int)).toNat = j := by
   rw [seqIndex_neg (by lia) h4] at h1
   rw [List.size_toArray, <- hl]
   exact Option.some.inj h1
  exact subscriptTail_builtinR (x:=w) pl.isList.typeIs slot_list_getitem.lookup
   (wpAny_getItem_list_neg (Q:=fun r s' => r = w /\ EP X pins σ Q r s') pl.isList (by lia) (by rw [List.size_toArray] <;> lia) (by lia) (by rw [hj]; simpa using ew) ⟨rfl, fin⟩) hs
theorem zo1 : IxR X rIxS := by
 intro value slice pins s σ H x y v u Q I rx ry h hs
 obtain ⟨z, i, c, rfl, rfl, hz, he, q⟩ := h
 obtain ⟨t, rfl⟩ := rx
 obtain ⟨t', rfl⟩ := ry
 obtain ⟨j, h1, h2, h3, h4, h5⟩ := zmw he
 have hl : z.cps.toList.length = z.length := by simp [Str.length]
 rw [hl] at h1 h4 h5
 have hn := zkp
 exact tail_any (typeIs_str s z t) slot_str_getitem.lookup (getItem_str (c:=c) (by
  have e1 : decide (i < -(2 ^ 63 : Int)) = false := decide_eq_false (by lia)
  have e2 : decide (i ≥ 2 ^ 63) = false := decide_eq_false (by lia)
  rw [e1, e2, Bool.or_false]) (by rw [h1]; simpa using h2) ⟨.str ⟨#[c]⟩, H, I.tok _, ⟨_, rfl⟩, q⟩) hs
theorem zik (lo hi : Option Int) (n : Nat) : (sliceBounds lo hi none n).1 = ((HT.sIx n 0 lo : Nat) : Int) /\ (sliceBounds lo hi none n).2.1 = ((HT.sIx n n hi : Nat) : Int) /\ (sliceBounds lo hi none n).2.2 = 1 := by
 refine ⟨?_, ?_, rfl⟩
 ·cases lo with
  | none => simp [sliceBounds, HT.sIx]
  | some i =>
   simp only [sliceBounds, HT.sIx, Option.getD_none, show (1 : Int) > 0 by decide, if_true]
   by_cases h : i < 0
   ·simp only [h, if_true] <;> lia
   ·simp only [h, if_false] <;> lia
 ·cases hi with
  | none => simp [sliceBounds, HT.sIx]
  | some i =>
   simp only [sliceBounds, HT.sIx, Option.getD_none, show (1 : Int) > 0 by decide, if_true]
   by_cases h : i < 0
   ·simp only [h, if_true] <;> lia
   ·simp only [h, if_false] <;> lia
theorem zhq (its : List Value) (lo hi : Option Int) : slicePick its.toArray lo hi none = ((its.drop (HT.sIx its.length 0 lo)).take (HT.sIx its.length its.length hi - HT.sIx its.length 0 lo)).toArray := by
 obtain ⟨h1, h2, h3⟩ := zik lo hi its.toArray.size
 unfold slicePick
 rw [h1, h2, h3]
 simp only [sliceRange_one, pick_run, List.size_toArray] <;> rfl
noncomputable def rSlL (K : PySem.W.Frag) : V -> Option Int -> Option Int -> Hp -> VK -> Prop := fun x lo hi H Q => ∃ a xs, x = .ref a /\ SqL K H a xs /\ ∀ p, H p = none -> Q (.ref p) (upd H p (.lst (cutV xs lo hi)))
theorem zcn : SlR X (rSlL X.K) := by
 intro pins s σ H x v vl vu lo hi sl Q I rx hs pl pu h
 obtain ⟨a, xs, rfl, hx, q⟩ := h
 cases rx
 obtain ⟨its, r, ht, hz⟩ := I.list hx
 have hlen := r.length
 refine ⟨"list", _, slot_list_getitem.lookup, ht.isList.typeIs, ?_⟩
 refine wpAny_getItem_list_slice ht.isList hs pl pu .none (by simp) ?_ (by rw [List.size_toArray] <;> lia)
 rw [zhq, <- hlen]
 refine ⟨.ref s.heap.objs.size, _, I.laid (t':=s.toks) (o:=.lst (cutV xs lo hi)) (fun b ob q => Heap.get?_push_of_some _ q) (Nat.le_refl _) ?_, rfl, q _ (I.hok.fresh (Nat.le_refl _))⟩
 exact ⟨Nat.le_trans (zjt xs lo hi) hz, _, 0, (r.drop (HT.sIx xs.length 0 lo)).take (HT.sIx xs.length xs.length hi - HT.sIx xs.length 0 lo), Heap.get?_push_size _ rfl⟩
theorem zby : zco X (.builtin "len") (fun xs H Q => ∃ p ys, xs = [.ref p] /\ (SqL X.K H p ys \/ SqT X.K H p ys) /\ Q (.int ys.length) H) := by
 intro pins s σ H xs us Q I r h
 obtain ⟨p, ys, rfl, hq, q⟩ := h
 obtain ⟨u, rfl, rx⟩ := zjr r
 cases rx
 have hn := zkp
 rcases hq with hq | hq
 ·obtain ⟨its, r', pl, hz⟩ := I.list hq
  have hlen := r'.length
  exact Calls.call_len_list pl.isList (by simp only [List.size_toArray] <;> lia) ⟨.int ys.length, H, I.tok _, ⟨s.toks + 1, by rw [List.size_toArray, hlen]⟩, q⟩
 ·obtain ⟨its, r', pl, hz⟩ := I.tuple hq
  have hlen := r'.length
  exact len_tuple pl (by simp only [List.size_toArray] <;> lia) ⟨.int ys.length, H, I.tok _, ⟨s.toks + 1, by rw [List.size_toArray, hlen]⟩, q⟩
theorem zev : zco X (.builtin "len") (fun xs H Q => ∃ z, xs = [.str z] /\ z.length <= sizeLine /\ Q (.int z.length) H) := by
 intro pins s σ H xs us Q I r h
 obtain ⟨z, rfl, hz, q⟩ := h
 obtain ⟨u, rfl, t, rfl⟩ := zjr r
 have hn := zkp
 exact len_str (by lia) ⟨.int z.length, H, I.tok _, ⟨_, rfl⟩, q⟩
noncomputable def tyV (K : PySem.W.Frag) (T : String) (x : V) (H : Hp) : Prop := match x with
 | .str _ => T = "str"
 | .int _ => T = "int"
 | .ref p => (T = "list" /\ ∃ xs, SqL K H p xs) \/ (T = "tuple" /\ ∃ o, K.lookup p = some o /\ o.cls = .type "tuple" /\ o.dict = none) \/
   (T = "dict" /\ ((∃ kvs, H p = some (.dK kvs)) \/ ∃ kvs, H p = some (.dT kvs))) \/ (T = "set" /\ ∃ S n, H p = some (.set S n))
 | _ => False
theorem zsj {pins : List (Addr × Obj)} {σ : St} {H : Hp} {s : Shared} {T : String} {x : V} {v : Value} (I : Inv X pins σ H s) (r : RelV x v) (ty : tyV X.K T x H) :
  s.TypeIs v T /\ ∀ a, v = .ref a -> ∃ ob, s.heap.get? a = some ob /\ ob.dict = none := by
 cases x with
 | str z =>
  obtain ⟨t, rfl⟩ := r
  cases (show T = "str" from ty)
  exact ⟨typeIs_str s z t, fun _ e => nomatch e⟩
 | int i =>
  obtain ⟨t, rfl⟩ := r
  cases (show T = "int" from ty)
  exact ⟨typeIs_int s i t, fun _ e => nomatch e⟩
 | ref p =>
  cases r
  rcases ty with ⟨rfl, xs, hq⟩ | ⟨rfl, o, hk, hc, hd⟩ | ⟨rfl, hk⟩ | ⟨rfl, S, n, hk⟩
  ·obtain ⟨its, _, pl, _⟩ := I.list hq
   refine ⟨pl.isList.typeIs, fun a e => ?_⟩
   cases e
   obtain ⟨o, n, e, c, hd, _⟩ := pl
   exact ⟨o, e, hd⟩
  ·refine ⟨⟨o, I.kIn p o hk, hc⟩, fun a e => ?_⟩
   cases e
   exact ⟨o, I.kIn _ o hk, hd⟩
  ·have z : ∃ o, s.heap.get? p = some o /\ o.ExactDict := by
    rcases hk with ⟨kvs, hk⟩ | ⟨kvs, hk⟩
    ·obtain ⟨_, _, _, _, o, _, _, e, ex, _⟩ := I.hok p _ hk
     exact ⟨o, e, ex⟩
    ·obtain ⟨_, _, _, _, o, _, _, e, ex, _⟩ := I.hok p _ hk
     exact ⟨o, e, ex⟩
   obtain ⟨o, e, ex⟩ := z
   refine ⟨⟨o, e, ex.1⟩, fun a e2 => ?_⟩
   cases e2
   exact ⟨o, e, ex.2.1⟩
  ·obtain ⟨o, _, _, _, e, ex, _⟩ := I.hok p _ hk
   refine ⟨⟨o, e, ex.1⟩, fun a e2 => ?_⟩
   cases e2
   exact ⟨o, e, ex.2.1⟩
 | _ => exact False.elim ty
noncomputable def tBM (K : PySem.W.Frag) (T : String) (r : V -> List V -> Hp -> VK -> Prop) (to : TE) (t : TA) : TE := fun σ H Q => to σ H fun x H1 => tyV K T x H1 /\ t σ H1 fun xs H2 => r x xs H2 Q
variable {o e : Expr} {es : List Expr} {to : TE} {t : TA} {name : Str} {apos cpos : Pos} {T id : String} {r : V -> List V -> Hp -> VK -> Prop}
theorem ze2 (pa : PlainAttrs T) (slot : Slot T name id) (hty : typeOf (.builtin id) = pure (.type "method_descriptor")) (hm : MtR X id r) (ho : PE X o to) (ha : PA X (e :: es) t)
  (hbase : attributeBase o name X.env (eval o X.env) = eval o X.env := by rfl)
  (hfew : ((backTo cpos (starEach (e :: es) X.env)).all (fun x => !x.1) && (backToKw cpos (keywordEach [] X.env)).all (fun x => x.1.isSome)
   && decide ((e :: es).length + ([] : List Keyword).length + (if ([] : List Keyword).isEmpty then 0 else 1) < 30)) = true := by rfl)
  (hline : (apos.endLine == cpos.line) = true := by rfl) (hs : starEach (e :: es) X.env = (false, eval e X.env) :: starEach es X.env := by rfl) (hplain : (backTo cpos (starEach es X.env)).any (·.1) = false := by rfl) :
  PE X (.Call (.Attribute o name apos) (e :: es) [] cpos) (tBM X.K T r to t) := by
 intro pins s σ H Q I h
 refine wpAny_Call_method_late hbase hfew hline rfl (thn (ho pins s σ H _ I h) fun v s1 hz9 => ?_)
 obtain ⟨x, H1, I1, r1, ty, q1⟩ := hz9
 obtain ⟨h1, h2⟩ := zsj I1 r1 ty
 refine ⟨T, id, pa, slot, hty, h1, h2, ?_⟩
 have hA := ha cpos pins s1 σ H1 _ I1 q1
 rw [hs] at hA ⊢
 refine Calls.callWith_builtin (by show (false || (backTo cpos (starEach es X.env)).any (·.1)) = false; rw [hplain] <;> rfl) (Calls.evalArgs_plain ?_)
 refine thn hA fun us s2 hz9 => ?_
 obtain ⟨vs, H2, I2, r2, q2⟩ := hz9
 exact hm pins s2 σ H2 x vs v us Q I2 r1 r2 q2
end
end L2
namespace L2
open PySem PySem.Spec PyProof.Rows
noncomputable def MtM (X : Cx) (id : String) (r : V -> List V -> Hp -> VK -> Prop) : Prop :=
 ∀ (pins : List (Addr × Obj)) (s : Shared) (σ : St) (H : Hp) (x : V) (xs : List V) (v : Value) (us : List Value) (Q : VK), Inv X pins σ H s -> RelV x v -> Vals xs us -> r x xs H Q ->
  wpAny (model X.prog X.w) X.A (call (.builtin id) (v :: us)) (EP X pins σ Q) X.xe s
theorem Vals.one : ∀ {x : V} {us : List Value}, Vals [x] us -> ∃ u, us = [u] /\ RelV x u
 | _, _, .cons r .nil => ⟨_, rfl, r⟩
section
variable {X : Cx} {pins : List (Addr × Obj)} {σ : St} {H : Hp} {s : Shared} {l b : Addr} {xs ys zs : List V}
theorem Inv.lset {its its' : List Value} {n : Nat} {f : Array Value -> Array Value} {t' : Nat} (I : Inv X pins σ H s) (hH : H l = some (.lst xs))
  (e : s.heap.get? l = some { cls := .type "list", data := .seq its.toArray n }) (hf : f its.toArray = its'.toArray) (hv : Vals ys its') (hz : ys.length <= sizeLine) :
  Inv X pins σ (upd H l (.lst ys)) { s with heap := s.heap.update l (Obj.mapSeq f), toks := t' } := by
 have q := PySem.IsL.update e f
 rw [hf] at q
 refine I.write (x:=l) (e:=l) (by rw [hH]; exact trivial) (.inl rfl) (fun b' u hb hu => (Heap.get?_update_other s.heap (Obj.mapSeq f) (Ne.symm hb)).trans hu) ⟨_, q⟩ ?_
 exact ⟨hz, its', _, hv, q⟩
theorem Inv.lnew {its : List Value} {t' : Nat} (I : Inv X pins σ H s) (hv : Vals ys its) (hz : ys.length <= sizeLine) :
  Inv X pins σ (upd H s.heap.objs.size (.lst ys)) { s with heap := s.heap.push { cls := .type "list", data := .seq its.toArray }, toks := t' } :=
 I.laid (fun _ _ q => Heap.get?_push_of_some _ q) (Nat.le_refl _) ⟨hz, its, 0, hv, Heap.get?_push_size _ rfl⟩
theorem Inv.fresh (I : Inv X pins σ H s) : H s.heap.objs.size = none := I.hok.fresh (Nat.le_refl _)
theorem Inv.lstM (I : Inv X pins σ H s) (hH : H l = some (.lst xs)) : xs.length <= sizeLine /\ ∃ (its : List Value) (n : Nat), Vals xs its /\ xs.length = its.length /\ s.heap.get? l = some { cls := .type "list", data := .seq its.toArray n } := by
 obtain ⟨z, its, n, r, e⟩ := I.hok l _ hH
 exact ⟨z, its, n, r, r.length, e⟩
end
section
variable {X : Cx}
noncomputable def zme : V -> List V -> Hp -> VK -> Prop := fun x vs H Q => ∃ l xs y, x = .ref l /\ vs = [y] /\ H l = some (.lst xs) /\ xs.length < sizeLine /\ Q .non (upd H l (.lst (xs ++ [y])))
theorem zd6 : MtM X "list.append" zme := by
 intro pins s σ H x vs v us Q I rx rv h
 obtain ⟨l, xs, y, rfl, rfl, hH, hz, q⟩ := h
 cases rx
 obtain ⟨u, rfl, ru⟩ := rv.one
 obtain ⟨z, its, n, r, hl, e⟩ := I.lstM hH
 refine call_meets F.slot_list_append ⟨_, e, rfl⟩ F.entry_list_append (F.args_list_append_2 _ _) (PySem.list_append l its.toArray n u (by rw [List.size_toArray]; lia)) ⟨e, ?_⟩
 refine ⟨.non, _, I.lset (its':=its ++ [u]) hH e (by simp) (r.append (.cons ru .nil)) ?_, rfl, q⟩
 rw [List.length_append, List.length_singleton]
 lia
end
end L2
namespace Att
open PySem PySem.W PySem.Calls PyProof.Rows
theorem zfr {P : Params} {h : Heap} : ∀ (ns : List Int) (vs : List Value), WellAll P h vs (ns.map WData.int) -> IntsAre vs ns := by
 intro ns
 induction ns with
 | nil =>
  intro vs w
  rw [List.map_nil] at w
  cases w
  exact .nil
 | cons n ns ih =>
  intro vs w
  rw [List.map_cons] at w
  cases w with
  | cons a b =>
   cases a
   exact .cons _ _ (ih _ b)
theorem zm5 {l : OpenLaw} {n : Nat} (hn : l.most = some n) {P : Params} {h : Heap} {args : List WData} {vals : List Value}
  (hpre : l.row.toRowW.claim.pre args = true) (hwl : WellAll P h vals args) :
  ∃ a vs ns, vals = [Value.ref a] /\ args = [WData.list (ns.map WData.int)] /\ h.get? a = some { cls := .type "list", data := .seq vs.toArray } /\ IntsAre vs ns /\ ns.length <= n := by
 have hsh : WShape.hasAll [] args [.list .int] = true := (pre_splitW hpre).1
 have hc : l.pre.holds [] { args := args } = true := (pre_splitW hpre).2
 obtain ⟨d, r, rfl, h1, h2⟩ := hasAllW_cons hsh
 obtain rfl := hasAllW_nil h2
 obtain ⟨xs, rfl, h3⟩ := hasW_list h1
 obtain ⟨ns, rfl⟩ := items_int h3
 have hlen : ns.length <= n := by
  unfold OpenLaw.pre at hc
  have h4 : (WTm.not (.lt (.lit (.int (n : Int))) (.len (.arg 0)))).holds [] { args := [.list (ns.map .int)] } = true := by
   have h4 := (holds_andW hc).1
   rw [hn] at h4
   exact h4
  have h5 := condW_of h4 (w_not (w_lt w_lit (w_len_list (w_arg rfl))))
  rw [List.length_map] at h5
  refine Nat.le_of_not_lt fun q => ?_
  have q' : (n : Int) < ((ns.length : Nat) : Int) := by omega
  first
   | (rw [decide_eq_true q'] at h5; exact absurd h5 (by decide))
   | (simp at h5; omega)
 cases hwl with
 | cons w1 w2 =>
  cases w2
  cases w1 with
  | list ho hall => exact ⟨_, _, ns, rfl, rfl, ho, zfr ns _ hall, hlen⟩
theorem zl4 (l : OpenLaw) (args : List WData) : l.row.toRowW.claim.post args (.bool true) args = true :=
 postW_of (r:=l.row.toRowW) (X:=(true == true))
  (show WShape.has [] (.bool true) .bool = true by first | rfl | decide | simp [WShape.has, WShape.arms, WShape.armsAll])
  (show (WTm.eq .res (.lit (.bool true))).value [] { args := args, res := some (.bool true), after := args } = some (.bool (true == true)) from w_eq_bool (w_res rfl) w_lit) rfl
theorem attach_call {l : OpenLaw} {n : Nat} {q : Program} {loose : List Str} {XP : (Str -> Option Value) -> Heap -> Prop} {YP : World -> Heap -> Prop} {d : DefRec}
  (hn : l.most = some n) (hdf : d.params.defaults = [])
  (call : ∀ (w : World) (s₀ s₁ : Shared) (mg mb : Str -> Option Value) (fa : Addr) (o : Obj) (pm cd doc : Value) (a : Addr) (vs : List Value) (ns : List Int),
   Ground q loose [] XP w s₀ mg mb s₁.heap -> YP w s₁.heap ->
   s₁.heap.get? fa = some o -> o.data = .func (docDef d.name d.params d.body d.scope pm cd doc) -> s₁.heap.CodeRec cd d.name -> mg d.name = some (.ref fa) ->
   s₁.heap.get? a = some { cls := .type "list", data := .seq vs.toArray } -> IntsAre vs ns -> ns.length <= n -> s₁.gens = #[] ->
   codeAny (model l.prog w) callerA (.call (.ref fa) ⟨[.ref a], []⟩) (fun r s' => r = .ok (.ret (.bool true)) /\ OldK s₁.heap s'.heap /\ s'.os = s₁.os /\ AllBare s'.gens) s₁) :
  WalkO q loose XP YP l.row.toRowW d [] (fun f vs => PySem.call f vs) := by
 intro w s₀ s₁ mg mb G Y fa o pm cd doc dV kV ho hd hcd hD hmg hg args vals as hpre hlay hrd hwl hlo
 obtain rfl : dV = .none := Dflts.none hD hdf
 obtain rfl : kV = .none := Dflts.noKw hD
 obtain ⟨a, vs, ns, rfl, rfl, hobj, hints, hlen⟩ := zm5 hn hpre hwl
 refine enter_call (codeAny_mono (call w s₀ s₁ mg mb fa o pm cd doc a vs ns G Y ho (fd_plain hd) hcd hmg hobj hints hlen hg) fun r s' hq => ?_)
 obtain ⟨rfl, h2, h3, h4⟩ := hq
 exact ⟨.inl ⟨.bool true, .bool true, [], rfl, fun _ => rfl, .bool true, zl4 l _, fun _ => ⟨List.Pairwise.nil, fun _ hm => (nomatch hm)⟩⟩, h2, h3, h4⟩
section
variable {prog : Program} {w : World} {A : Around} {E : Value -> Shared -> Prop} {s : Shared} {K : Frag}
end
end Att
namespace L2
open PySem PySem.Spec PyProof.Rows
theorem ziz : ∀ {vs : List Value} {ns : List Int}, IntsAre vs ns -> Vals (ns.map V.int) vs
 | _, _, .nil => .nil
 | _, _, .cons n t h => .cons ⟨t, rfl⟩ (ziz h)
noncomputable def Only (H : Hp) : Prop := ∀ b, H b = none \/ ∃ o xs, H b = some (.frz o (.lst xs))
theorem zos {P : Program} {w : World} {K : PySem.W.Frag} {mg mb : Str -> Option Value} {CX : CXT} {k : Nat} {fa a : Addr} {fd : FuncData} {x : Str} {sp : Sp} {s₁ : Shared} {vs : List Value} {ns : List Int}
  (KX : K.In s₁.heap) (hns : s₁.heap.Ns mainGlobals mg) (hb : s₁.heap.Ns builtinsNs mb) (hbb : ∀ x : Str, x ≠ "__name__" -> mb x = bootBuiltins x) (hlim : s₁.heap.NoLimit) (hg : s₁.gens = #[])
  (ha : s₁.heap.get? a = some { cls := .type "list", data := .seq vs.toArray }) (hi : IntsAre vs ns) (hl : ns.length <= sizeLine) (hr : Room k callerA)
  (F : ∀ base : Heap, K.In base -> base.Ns mainGlobals mg -> FnOk P w K mg base CX k fa fd [x] sp) (hbind : ∀ (s : Shared) (u : Value), BindsTo s fd ⟨[u], []⟩ [(x, u)])
  (hsp : ∀ H : Hp, Only H -> SqL K H a (ns.map V.int) -> sp [.ref a] H (fun v _ => v = .bl true) fun _ _ _ => False)
  (hCX : ∀ H e s', CX [] H s₁ (fun _ _ _ => False) e s' -> False) :
  codeAny (model P w) callerA (.call (.ref fa) ⟨[.ref a], []⟩) (fun r s' => r = .ok (.ret (.bool true)) /\ OldK s₁.heap s'.heap /\ s'.os = s₁.os /\ AllBare s'.gens) s₁ := by
 have rv := ziz hi
 have lenV := hi.length
 -- from an abstract heap in which nothing but the script may be tracked
 have core : ∀ H : Hp, Only H -> SqL K H a (ns.map V.int) -> HOk P w H s₁.heap -> (∀ b, H b ≠ none -> b = a) -> (H a ≠ none -> K.lookup a = none) ->
   codeAny (model P w) callerA (.call (.ref fa) ⟨[.ref a], []⟩) (fun r s' => r = .ok (.ret (.bool true)) /\ OldK s₁.heap s'.heap /\ s'.os = s₁.os /\ AllBare s'.gens) s₁ := by
  intro H hO hS hok hA hK
  have base_of : ∀ {b : Addr} {o : Obj}, s₁.heap.get? b = some o -> H b = none -> (hidT s₁.heap H).get? b = some o := fun e n => zor e n
  have noA : ∀ {b : Addr} {o : Obj} {es : Array DictEntry} {ep : Nat}, s₁.heap.get? b = some o -> o.data = .dict es ep -> H b = none := fun {b o es ep} e d => by
   cases q : H b with
   | none => rfl
   | some u =>
    have e' : b = a := hA b (by rw [q]; simp)
    subst e'
    rw [ha] at e; cases e
    have d' : Data.seq vs.toArray _ = Data.dict es ep := d
    cases d'
  have nsK : ∀ {b : Addr} {m : Str -> Option Value}, s₁.heap.Ns b m -> (hidT s₁.heap H).Ns b m := fun {b m} ⟨o, es, ep, e, d, r⟩ => ⟨o, es, ep, base_of e (noA e d), d, r⟩
  have hKb : K.In (hidT s₁.heap H) := fun b o e => base_of (KX b o e) (by
   cases q : H b with
   | none => rfl
   | some u =>
    have e' : b = a := hA b (by rw [q]; simp)
    subst e'
    rw [hK (by rw [q]; simp)] at e; cases e)
  have hM : Mod K mg (hidT s₁.heap H) := ⟨hKb, nsK hns, ⟨mb, nsK hb, hbb⟩, let ⟨mc, h1, h2⟩ := hlim; ⟨mc, nsK h1, h2⟩⟩
  have e0 : Env0 P w K mg (hidT s₁.heap H) callerA [] s₁ H := ⟨rfl, hM, fun b o e => zpp e, Nat.le_of_eq (zlw _ _), trivial, fun b hb => absurd (show b ∈ ([] : List Addr) from hb) (by simp), hok, .of_eq hg⟩
  refine codeAny_mono ((F _ hKb (nsK hns)).run callerA [] s₁ H ⟨[.ref a], []⟩ [.ref a] [.ref a] _ _ hr e0 (hbind s₁ (.ref a)) (.cons rfl .nil) (hsp H hO hS)) fun r s' h => ?_
  cases r with
  | error e => exact (hCX H e s' h).elim
  | ok fl =>
   cases fl with
   | next => exact False.elim h
   | brk => exact False.elim h
   | cont => exact False.elim h
   | ret u =>
    obtain ⟨v, H', os, bare, un, hok', r', q⟩ := h
    have q' : v = .bl true := q
    subst q'
    obtain rfl : u = Value.bool true := r'
    refine ⟨rfl, OldK.of_keep fun b o e => ?_, os, bare⟩
    cases q : H b with
    | none => exact un.keep b o e q (by intro z; exact absurd (show b ∈ ([] : List Addr) from z) (by simp)) (by simp)
    | some u =>
     rcases hO b with z | ⟨ob, xs, z⟩
     ·rw [q] at z; cases z
     ·have z2 := un.frzs b ob _ z
      obtain ⟨e1, _⟩ := hok b _ z
      obtain ⟨e2, _⟩ := hok' b _ z2
      rw [e] at e1; cases e1
      exact e2
 cases hk : K.lookup a with
 | some o =>
  -- the script is one of the module's own objects
  have e := KX a o hk
  rw [ha] at e
  cases e
  refine core (fun _ => none) (fun _ => .inl rfl) (.inr ⟨_, vs.toArray, _, hk, rfl, rfl, rfl, by rw [List.size_toArray, lenV]; exact hl, by simpa using rv⟩) (fun b u z => by have z' : (none : Option HO) = some u := z; cases z') (fun b z => absurd rfl z) fun z => absurd rfl z
 | none =>
  refine core (fun b => if b = a then some (.frz { cls := .type "list", data := .seq vs.toArray } (.lst (ns.map V.int))) else none) (fun b => ?_) (.inl (.inr ⟨{ cls := .type "list", data := .seq vs.toArray }, if_pos rfl⟩)) (fun b u z => ?_) (fun b z => ?_) fun _ => hk
  ·by_cases hb : b = a
   ·exact .inr ⟨_, _, if_pos hb⟩
   ·exact .inl (if_neg hb)
  ·by_cases hb : b = a
   ·have z' := (if_pos hb).symm.trans z
    cases z'
    subst hb
    exact ⟨ha, by rw [List.length_map]; exact hl, vs, _, rv, ha⟩
   ·have z' := (if_neg hb).symm.trans z
    cases z'
  ·by_cases hb : b = a
   ·exact hb
   ·exact absurd (if_neg hb) z
end L2
namespace L2
open PySem PySem.Spec PyProof.Rows
theorem walk_of {l : PySem.W.OpenLaw} {n k : Nat} {q : Program} {loose : List Str} {XP : (Str -> Option Value) -> Heap -> Prop} {YP : World -> Heap -> Prop} {d : DefRec} {K : Params -> PySem.W.Frag} {CX : World -> CXT} {sp : World -> Sp} {x : Str}
  (hn : l.most = some n) (hn2 : n <= sizeLine) (hdf : d.params.defaults = []) (hr : Room k callerA)
  (hY : ∀ (w : World) (h : Heap), YP w h -> (K w.params).In h)
  (F : ∀ (w : World) (mg : Str -> Option Value) (fa : Addr) (h : Heap), (K w.params).In h -> h.Ns mainGlobals mg -> mg d.name = some (.ref fa) ->
   ∃ fd : FuncData, (∀ (s : Shared) (u : Value), BindsTo s fd ⟨[u], []⟩ [(x, u)]) /\
    ∀ base : Heap, (K w.params).In base -> base.Ns mainGlobals mg -> FnOk l.prog w (K w.params) mg base (CX w) k fa fd [x] (sp w))
  (hsp : ∀ (w : World) (H : Hp) (a : Addr) (ns : List Int), ns.length <= n -> Only H -> SqL (K w.params) H a (ns.map V.int) -> sp w [.ref a] H (fun v _ => v = .bl true) fun _ _ _ => False)
  (hCX : ∀ (w : World) (H : Hp) (s : Shared) (e : Value) (s' : Shared), CX w [] H s (fun _ _ _ => False) e s' -> False) :
  PySem.W.WalkO q loose XP YP l.row.toRowW d [] (fun f vs => PySem.call f vs) := by
 refine Att.attach_call hn hdf fun w s₀ s₁ mg mb fa o pm cd doc a vs ns G Y ho hd hcd hmg hobj hints hlen hg => ?_
 have KX := hY w _ Y
 obtain ⟨fd, hb, hF⟩ := F w mg fa _ KX G.T.g hmg
 exact zos KX G.T.g G.T.b G.T.builtins G.T.nolimit hg hobj hints (Nat.le_trans hlen hn2) hr hF hb (fun H hO hS => hsp w H a ns hlen hO hS) fun H e s' => hCX w H s₁ e s'
end L2
namespace L2
open PySem PySem.Spec PyProof.Rows
noncomputable def zap (s : Stmt) : Arguments := match s with
 | .FunctionDef _ a _ _ _ _ _ _ _ _ => a
 | _ => { posonlyargs := [], args := [], vararg := none, kwonlyargs := [], kw_defaults := [], kwarg := none, defaults := [] }
noncomputable def zan (s : Stmt) : List Stmt := match s with
 | .FunctionDef _ _ b _ _ _ _ _ _ _ => b
 | _ => []
noncomputable def zac (s : Stmt) : Scope := match s with
 | .FunctionDef _ _ _ _ _ _ sc _ _ _ => sc
 | _ => { kind := .function, names := [], isGenerator := false, isCoroutine := false }
noncomputable abbrev CX0 : CXT := fun _ _ _ _ _ _ => False
noncomputable abbrev E0 : XK := fun _ _ _ => False
theorem zcf {X : Cx} : zc5 CX0 X E0 := fun _ _ _ _ _ _ _ h => h.elim
structure Fun (K : PySem.W.Frag) (x qual : Str) (st : Stmt) (f : Addr) (fd : FuncData) : Prop where
 ex : ∃ (oc : Value) (od : Option Addr) (kV doc pm : Value) (an : Option Addr) (cdv ct : Value) (osl : Array (Option Value)),
  fd = PySem.W.fnOf x qual (zap st) (zan st) (zac st) .none kV doc pm an cdv ct /\ K.lookup f = some ⟨oc, od, .func fd, osl⟩ /\ PySem.W.codeIn K cdv qual = true
 kp : PySem.W.keepIn K (.ref f) = true
section
variable {P : Program} {w : World} {K : PySem.W.Frag} {mg : Str -> Option Value} {base : Heap}
theorem Fun.ok {x qual : Str} {st : Stmt} {f : Addr} {fd : FuncData} {N ps : List Str} {k : Nat} {sp : Sp} (F : Fun K x qual st f fd) (S : FnScope N ps (zac st)) (len : ∀ vs H Q E, sp vs H Q E -> vs.length = ps.length)
  (hbody : ∀ (cdv : Value) (A : Around) (outer : List Env) (s : Shared) (H : Hp) (vs : List V) (Q : VK) (E : XK), Room k (A.deeper (envOfC qual (zac st) s.heap.objs.size f cdv)) -> sp vs H Q E ->
   ∃ t, PSs (cxOf CX0 P w K mg base N qual (zac st) f cdv A outer s H E).nox (zan st) t /\ t { nx := fun _ H' => Q .non H', rt := Q } (start N vs) H) : FnOk P w K mg base CX0 (k + 1) f fd ps sp := by
 obtain ⟨oc, od, kV, doc, pm, an, cdv, ct, osl, rfl, lk, hcd⟩ := F.ex
 refine zrb lk hcd S len fun A outer s H vs Q E hr hsp => ?_
 obtain ⟨t, h, q⟩ := hbody cdv A outer s H vs Q E hr hsp
 exact ⟨t, h.nox, q⟩
theorem Fun.binds {x qual : Str} {st : Stmt} {f : Addr} {fd : FuncData} {ps : List Str} (F : Fun K x qual st f fd)
  (h : ∀ (kV doc pm : Value) (an : Option Addr) (cdv ct : Value) (us : List Value), us.length = ps.length -> bindArgs (PySem.W.fnOf x qual (zap st) (zan st) (zac st) .none kV doc pm an cdv ct) ⟨us, []⟩ = pure (ps.zip us)) : zbw K fd ps [] := by
 obtain ⟨oc, od, kV, doc, pm, an, cdv, ct, osl, rfl, lk, hcd⟩ := F.ex
 exact .all (h kV doc pm an cdv ct)
theorem zb8 {x qual : Str} {st : Stmt} {f : Addr} {oc : Value} {od an : Option Addr} {osl : Array (Option Value)} {kV doc pm cdv ct : Value} (l : K.lookup f = some ⟨oc, od, .func (PySem.W.fnOf x qual (zap st) (zan st) (zac st) .none kV doc pm an cdv ct), osl⟩)
  (c : PySem.W.codeIn K cdv qual = true) (k : PySem.W.keepIn K (.ref f) = true) : Fun K x qual st f (PySem.W.fnOf x qual (zap st) (zan st) (zac st) .none kV doc pm an cdv ct) := ⟨⟨oc, od, kV, doc, pm, an, cdv, ct, osl, rfl, l, c⟩, k⟩
end
section
variable {X : Cx}
theorem pv (i : Nat) {x : Str} {pos : Pos} (hN : X.N[i]? = some x := by rfl) (hv : Vis X.env.scope x := by first | exact Or.inl rfl | exact Or.inr (Or.inl rfl) | exact Or.inr (Or.inr rfl)) (hd : (x == ("__debug__" : Str)) = false := by decide)
  (hcd : (x == ("__classdict__" : Str)) = false := by decide) : PE X (.Name x pos) (tVar i) := zr8 hN hv hd hcd
end
theorem iteF {A B : Prop} (h : B) : if false = true then A else B := by
 rw [if_neg Bool.false_ne_true]
 exact h
theorem iteT {A B : Prop} (h : A) : if true = true then A else B := by
 rw [if_pos rfl]
 exact h
noncomputable def Same (H H' : Hp) : Prop := ∀ b o, H b = some o -> H' b = some o
theorem Same.refl (H : Hp) : Same H H := fun _ _ h => h
theorem Same.trans {H H1 H2 : Hp} (a : Same H H1) (b : Same H1 H2) : Same H H2 := fun c o h => b c o (a c o h)
theorem Same.free {H H' : Hp} (e : Same H H') {l : Addr} (h : H' l = Option.none) : H l = Option.none := by
 cases q : H l with
 | none => rfl
 | some o =>
  rw [e l o q] at h
  cases h
theorem Same.seq {K : PySem.W.Frag} {H H' : Hp} {a : Addr} {xs : List V} (e : Same H H') (h : SqL K H a xs) : SqL K H' a xs := by
 rcases h with (h | ⟨o, h⟩) | h
 ·exact .inl (.inl (e _ _ h))
 ·exact .inl (.inr ⟨o, e _ _ h⟩)
 ·exact .inr h
end L2
set_option maxHeartbeats 4000000
namespace L2
open PySem PySem.Spec PyProof.Rows
noncomputable abbrev KT (H : Hp) : List (List Key × V) -> List (List Key × Addr × Value) -> Prop := Paired fun p q => p.1 = q.1 /\ H q.2.1 = some (.tup (p.1.map kV)) /\ RelV p.2 q.2.2
section
variable {X : Cx} {pins : List (Addr × Obj)} {σ : St} {H : Hp} {s : Shared} {a : Addr} {y v : V} {u r : Value} {o : Option V} {A : Around} {E : Value -> Shared -> Prop}
end
structure M1 (X : Cx) (o : Expr) (m : Str) (apos : Pos) (e : Expr) (cpos : Pos) : Prop where
 base : attributeBase o m X.env (eval o X.env) = eval o X.env
 few : ((backTo cpos (starEach [e] X.env)).all (fun x => !x.1) && (backToKw cpos (keywordEach [] X.env)).all (fun x => x.1.isSome)
  && decide (([e] : List Expr).length + ([] : List Keyword).length + (if ([] : List Keyword).isEmpty then 0 else 1) < 30)) = true
 line : (apos.endLine == cpos.line) = true
 trees : backTo cpos (starEach [e] X.env) = [(false, eval e X.env)]
structure M2 (X : Cx) (o : Expr) (m : Str) (apos : Pos) (e f : Expr) (cpos : Pos) : Prop where
 base : attributeBase o m X.env (eval o X.env) = eval o X.env
 few : ((backTo cpos (starEach [e, f] X.env)).all (fun x => !x.1) && (backToKw cpos (keywordEach [] X.env)).all (fun x => x.1.isSome)
  && decide (([e, f] : List Expr).length + ([] : List Keyword).length + (if ([] : List Keyword).isEmpty then 0 else 1) < 30)) = true
 line : (apos.endLine == cpos.line) = true
 trees : backTo cpos (starEach [e, f] X.env) = [(false, eval e X.env), (false, eval f X.env)]
end L2
namespace L2
open PySem PySem.Spec PyProof.Rows
end L2
namespace L2
open PySem PySem.Spec PyProof.Rows PySem.Builtin PySem.Builtin.Str
noncomputable def T (l : List Nat) : Str := ⟨l.toArray⟩
theorem zf7 (l : List Nat) : (T l).cps.toList = l := by simp [T]
theorem zq5 {a b : List Nat} : T a = T b ↔ a = b := by
 constructor
 ·intro h
  have := congrArg (fun x : Str => x.cps.toList) h
  simpa [T] using this
 ·rintro rfl; rfl
theorem zb4 (l : List Nat) : (T l).length = l.length := by simp [T, Str.length]
theorem zpm (a b : List Nat) : T a ++ T b = T (a ++ b) := by
 show Str.append (T a) (T b) = _
 simp [Str.append, T]
theorem zkq (a b : List Nat) : decide ((V.str (T a)) = V.str (T b)) = decide (a = b) := by
 by_cases h : a = b
 ·subst h; simp
 ·rw [decide_eq_false h, decide_eq_false]
  intro q; injection q with q; exact h (zq5.mp q)
section
variable {X : Cx}
theorem zi0 : ∀ (l : List (Str × Tok)), Vals ((l.map (·.1)).map V.str) (strValues l)
 | [] => .nil
 | p :: r => .cons ⟨p.2, rfl⟩ (zi0 r)
theorem zjm : ∀ {ys : List Str} {us : List Value}, Vals (ys.map V.str) us -> StrsAre us ys
 | [], _, h => by cases h; exact .nil
 | y :: r, _, h => by
  cases h with
  | cons a b =>
   obtain ⟨t, rfl⟩ := a
   exact .cons y t (zjm b)
noncomputable def zpf : V -> List V -> Hp -> VK -> Prop := fun x vs H Q => ∃ z y, x = .str z /\ vs = [.str y] /\ (y.length == 0) = false /\ z.length + 2 <= sizeLine /\ ∀ p, H p = none -> Q (.ref p) (upd H p (.lst ((Txt.split z y).map V.str)))
theorem zmq (x y : Str) : (Txt.split x y).length <= x.length + 2 := by
 unfold Txt.split
 split
 ·simp
 ·split
  ·simp
  ·rw [length_partsBetween]
   have := StrLaws.occ_length_le x y 0 x.length (x.length + 1)
   lia
theorem zk8 : MtR X "str.split" zpf := by
 intro pins s σ H x xs v us Q I rx rs h
 obtain ⟨z, y, rfl, rfl, hy, hz, q⟩ := h
 obtain ⟨t, rfl⟩ := rx
 obtain ⟨u, rfl, ru⟩ := Vals.one rs
 obtain ⟨u, rfl⟩ := ru
 have hlen := zmq z y
 have fin : ∀ (l : List (Str × Tok)) (k : Nat), l.map (·.1) = Txt.split z y ->
   EP X pins σ Q (.ref s.heap.objs.size) { s with heap := s.heap.push { cls := .type "list", data := .seq (strValues l).toArray }, toks := k } := fun l k e => by
  have v1 := zi0 l
  rw [e] at v1
  exact ⟨.ref s.heap.objs.size, _, I.lnew v1 (by rw [List.length_map]; lia), rfl, q _ I.fresh⟩
 have hn : (partsBetween z (occurrences z y 0 z.length (z.length + 1)) y.length).length <= sizeLine := by
  have e1 := StrLaws.occ_length_le z y 0 z.length (z.length + 1)
  rw [length_partsBetween]; lia
 cases h1 : (decide (z.length < y.length) || decide (strKind z < strKind y))
 ·cases hf : (occurrences z y 0 z.length (z.length + 1)).isEmpty
  ·refine call_meets F.slot_str_split (typeIs_str _ _ _) F.entry_str_split (F.args_str_split_2 _ _) (meets_str_split_sep z y t u h1 hy hf (by lia) hn) ?_
   show wants (EP X pins σ Q) X.xe _ { s with toks := _, heap := s.heap.push { cls := .type "list", data := .seq (strsFrom s.toks (partsBetween z (occurrences z y 0 z.length (z.length + 1)) y.length)).toArray } }
   rw [strsFrom_eq]
   exact fin (numbered s.toks _) _ ((numbered_texts _ _).trans ((if_neg (ne_true_of_eq_false h1)).trans (if_neg (ne_true_of_eq_false hf))).symm)
  ·exact call_meets F.slot_str_split (typeIs_str _ _ _) F.entry_str_split (F.args_str_split_2 _ _) (meets_str_split_not_found z y t u h1 hy hf)
    (fin [(z, t)] s.toks ((if_neg (ne_true_of_eq_false h1)).trans (if_pos hf)).symm)
 ·exact call_meets F.slot_str_split (typeIs_str _ _ _) F.entry_str_split (F.args_str_split_2 _ _) (meets_str_split_cannot_occur z y t u h1)
   (fin [(z, t)] s.toks (if_pos h1).symm)
noncomputable def znx (K : PySem.W.Frag) : V -> List V -> Hp -> VK -> Prop := fun x vs H Q => ∃ z p ys, x = .str z /\ vs = [.ref p] /\ SqL K H p (ys.map V.str) /\ (ys.map (·.length)).sum + ys.length * z.length <= 16777216 /\ Q (.str (Str.join z ys)) H
theorem zb5 : MtR X "str.join" (znx X.K) := by
 intro pins s σ H x xs v us Q I rx rs h
 obtain ⟨z, p, ys, rfl, rfl, hl, hz, q⟩ := h
 obtain ⟨t, rfl⟩ := rx
 obtain ⟨u, rfl, ru⟩ := Vals.one rs
 cases ru
 obtain ⟨its, r, pl, _⟩ := I.list hl
 refine join_list pl.isList (ys:=ys) (by simpa using zjm r) hz fun t' k => ⟨.str _, H, I.tok _, ⟨_, by show _ = Value.str (Str.join z ys) t'; rw [<- StrLaws.glued_eq_join]; rfl⟩, q⟩
end
noncomputable def Its (x : Str) : It := ⟨fun i _ => i < x.cps.toList.length, fun i H v H' => H' = H /\ ∃ c, x.cps.toList[i]? = some c /\ v = .str (T [c]), fun i _ => x.cps.toList.length <= i⟩
theorem zfm {P : Program} {w : World} {K : PySem.W.Frag} {tg : Expr} {it : Addr} {n : Nat} {R : Nat -> Value -> Prop} {St : Nat -> Heap -> Prop} {J : It}
  (W : ∀ A' : Around, A'.handled = none -> Walks P w A' it [it] [it] n R St) (hself : ∀ (A' : Around) (i : Nat) (s : Shared) (Q : Value -> Shared -> Prop) (E : Value -> Shared -> Prop), St i s.heap -> Q (.ref it) s -> wpAny (model P w) A' (pyIter (.ref it)) Q E s) (ho : ∀ i h, St i h -> ∃ o T vs, h.get? it = some o /\ o.cls = .type T /\ o.data = .fields vs /\ ["enumerate", "zip", "dict_itemiterator", "dict_reverseitemiterator", "odict_iterator", "itertools.zip_longest", "itertools.pairwise"].contains T = false)
  (hgo : ∀ i H, J.go i H -> i < n) (hst : ∀ i H, J.stop i H -> n <= i) (hy : ∀ i v H, i < n -> R i v -> ∃ x, RelV x v /\ J.yld i H x H) : Turn P w K tg J [it] it (fun i h => i <= n /\ St i h) where
 mem := by simp
 obj := fun i h st b hb => by
  have e : b = it := by simpa using hb
  subst e
  obtain ⟨o, T, vs, e, c, d, _⟩ := ho i h st.2
  exact ⟨o, e, fun v z => by rw [d] at z; cases z⟩
 keep := fun i h h' st k => ⟨st.1, by
  have W0 := W ({} : Around) rfl
  exact W0.frame i h h' st.2 fun b hb o e => k b hb o e⟩
 item := by
  intro X hP hw hK hc i pins s σ H E I hf st hg
  subst hP hw hK
  obtain ⟨f0, f1, f2, f3, f4, f5⟩ := hf it (by simp)
  have hi := hgo i H hg
  refine (W X.A (I.ok.hd hc)).item i s _ _ hi st.2 fun v h' tk hv st' kk => ?_
  obtain ⟨x, rx, yx⟩ := hy i v H hi hv
  have I1 : Inv X pins σ H { s with heap := h', toks := tk } := I.turned (fun b o hb e => kk b o (by simpa using hb) e) f0 f1 f3 f4 f5
  obtain ⟨o, T, vs, e, c, d, nz⟩ := ho _ _ st'
  exact ⟨v, rfl, zrv (s:={ s with heap := h', toks := tk }) (n:=T) e c d nz ⟨x, H, I1, rx, yx, ⟨hi, st'⟩, fun b hb => (hf b hb).1⟩⟩
 done := by
  intro X hP hw hK hc i pins s σ H E I hf st hg
  subst hP hw hK
  obtain ⟨f0, f1, f2, f3, f4, f5⟩ := hf it (by simp)
  have e : i = n := Nat.le_antisymm st.1 (hst i H hg)
  subst e
  exact (W X.A (I.ok.hd hc)).done s _ _ st.2 fun h' tk kk => ⟨rfl, I.turned (fun b o hb e => kk b o (by simpa using hb) e) f0 f1 f3 f4 f5⟩
 self := fun A i s Q E st h => hself A i s Q E st.2 h
section
variable {X : Cx} {tg : Expr}
noncomputable def iStr (tl : TE) : TI := fun σ H R => tl σ H fun x H1 => ∃ z, x = .str z /\ R (Its z) H1
theorem zrx {l : Expr} {tl : TE} (hl : PE X l tl) : PI X tg l (iStr tl) := by
 intro pins s σ H R I h
 refine thn (hl pins s σ H _ I h) fun v s1 hz9 => ?_
 obtain ⟨x, H1, I1, r1, q1⟩ := hz9
 obtain ⟨z, e, q⟩ := q1
 subst e
 obtain ⟨t, rfl⟩ := r1
 have fin : ∀ (o : Obj) (St : Nat -> Heap -> Prop), Turn X.prog X.w X.K tg (Its z) [s1.heap.objs.size] s1.heap.objs.size (fun i h => i <= z.cps.size /\ St i h) -> St 0 (s1.heap.push o) ->
   PIE X pins σ tg R (.ref s1.heap.objs.size) { s1 with heap := s1.heap.push o } := fun o St Tn st => by
  refine ⟨s1.heap.objs.size, [s1.heap.objs.size], _, _, H1, rfl, I1.kept (t':=s1.toks) fun b o e => Heap.get?_push_of_some _ e, Tn, ⟨Nat.zero_le _, st⟩, fun b hb => ?_, q⟩
  have e : b = s1.heap.objs.size := by simpa using hb
  subst e
  exact I1.fpOk (Nat.le_refl _) (I1.hok.fresh (Nat.le_refl _))
 have hgo : ∀ i H, (Its z).go i H -> i < z.cps.size := fun i _ h => by simpa [Its] using h
 have hst : ∀ i H, (Its z).stop i H -> z.cps.size <= i := fun i _ h => by simpa [Its] using h
 have hy : ∀ i v H, i < z.cps.size -> SignAt z i v -> ∃ x, RelV x v /\ (Its z).yld i H x H := fun i v H hi ⟨c, u, hc, e⟩ => by
  subst e
  exact ⟨.str (T [c]), ⟨u, rfl⟩, rfl, c, by simpa using hc, rfl⟩
 cases ha : z.cps.all (· < 128)
 ·refine wpAny_pyIter_wide ha (fin _ _ (zfm (n:=z.cps.size) (R:=SignAt z) (St:=fun i h => h.IsStrIter s1.heap.objs.size "str_iterator" z t i) (fun A' hA => Walks.strWide hA _ z t) (fun _ _ _ _ _ st q => wpAny_pyIter_striter_wide st q) (fun i h st => ?_) hgo hst hy) ⟨_, Heap.get?_push_size _ rfl, rfl, rfl⟩)
  obtain ⟨o, e, c, d⟩ := st
  exact ⟨o, _, _, e, c, d, by decide⟩
 ·refine wpAny_pyIter_ascii ha (fin _ _ (zfm (n:=z.cps.size) (R:=SignAt z) (St:=fun i h => h.IsStrIter s1.heap.objs.size "str_ascii_iterator" z t i) (fun A' hA => Walks.strAscii hA _ z t) (fun _ _ _ _ _ st q => wpAny_pyIter_striter_ascii st q) (fun i h st => ?_) hgo hst hy) ⟨_, Heap.get?_push_size _ rfl, rfl, rfl⟩)
  obtain ⟨o, e, c, d⟩ := st
  exact ⟨o, _, _, e, c, d, by decide⟩
end
end L2
namespace L2
open PySem PySem.Spec PyProof.Rows
noncomputable def clos (cells : List (Str × Addr)) : List (Str × NameKind) -> List (Str × Addr) -> List (Str × Addr)
 | [], acc => acc
 | (n, k) :: r, acc => if k == .free then (match cells.lookup n with | some c => clos cells r ((n, c) :: acc) | none => clos cells r acc) else clos cells r acc
theorem ze6 {cells : List (Str × Addr)} : ∀ (names : List (Str × NameKind)) (acc : List (Str × Addr)), (∀ x c, acc.lookup x = some c -> cells.lookup x = some c) -> ∀ x c, (clos cells names acc).lookup x = some c -> cells.lookup x = some c
 | [], _, h => h
 | (n, k) :: r, acc, h => by
  intro x c
  unfold clos
  split
  ·cases e : cells.lookup n with
   | none => exact ze6 r acc h x c
   | some d =>
    refine ze6 r _ (fun y z hy => ?_) x c
    rw [List.lookup_cons] at hy
    cases q : y == n with
    | true =>
     rw [q] at hy
     have : y = n := by simpa using q
     subst this
     simpa [e] using hy
    | false => rw [q] at hy; exact h y z hy
  ·exact ze6 r acc h x c
theorem ze4 {cells : List (Str × Addr)} : ∀ (names : List (Str × NameKind)) (acc : List (Str × Addr)) (x : Str), (acc.lookup x).isSome = true -> ((clos cells names acc).lookup x).isSome = true
 | [], _, _, h => h
 | (n, k) :: r, acc, x, h => by
  unfold clos
  split
  ·cases e : cells.lookup n with
   | none => exact ze4 r acc x h
   | some d =>
    refine ze4 r _ x ?_
    rw [List.lookup_cons]
    cases q : x == n with
    | true => rfl
    | false => exact h
  ·exact ze4 r acc x h
theorem ze9 {cells : List (Str × Addr)} : ∀ (names : List (Str × NameKind)) (acc : List (Str × Addr)) (x : Str), (x, NameKind.free) ∈ names -> (cells.lookup x).isSome = true -> ((clos cells names acc).lookup x).isSome = true
 | (n, k) :: r, acc, x, hm, hs => by
  unfold clos
  rcases List.mem_cons.mp hm with e | hm
  ·cases e
   simp only [beq_self_eq_true, if_true]
   obtain ⟨c, hc⟩ := Option.isSome_iff_exists.mp hs
   rw [hc]
   refine ze4 r _ _ ?_
   simp [List.lookup_cons]
  ·split
   ·cases e : cells.lookup n with
    | none => exact ze9 r acc x hm hs
    | some d => exact ze9 r _ x hm hs
   ·exact ze9 r acc x hm hs
theorem zgt {scope : Scope} {env : Env} (h : ∀ x, (x, NameKind.free) ∈ scope.names -> (env.cells.lookup x).isSome = true) : closureFor scope env = pure (clos env.cells scope.names []) := by
 have gen : ∀ (names : List (Str × NameKind)) (acc : List (Str × Addr)), (∀ x, (x, NameKind.free) ∈ names -> (env.cells.lookup x).isSome = true) ->
   (forIn names acc (fun (p : Str × NameKind) (r : List (Str × Addr)) => (if p.2 == NameKind.free then (do let c <- cellOf env p.1; pure (ForInStep.yield ((p.1, c) :: r))) else pure (ForInStep.yield r) : Sem (ForInStep (List (Str × Addr)))))) = pure (clos env.cells names acc) := by
  intro names
  induction names with
  | nil => intro acc _; rfl
  | cons p r ih =>
   obtain ⟨n, k⟩ := p
   intro acc hh
   rw [List.forIn_cons]
   unfold clos
   cases hk : k == NameKind.free with
   | false =>
    simp only [hk, Bool.false_eq_true, if_false]
    exact ih acc fun x hx => hh x (List.mem_cons_of_mem _ hx)
   | true =>
    have hk' : k = .free := by simpa using hk
    subst hk'
    obtain ⟨c, hc⟩ := Option.isSome_iff_exists.mp (hh n List.mem_cons_self)
    have e : cellOf env n = pure c := by unfold cellOf; rw [hc]
    simp only [beq_self_eq_true, if_true, e, hc]
    exact ih _ fun x hx => hh x (List.mem_cons_of_mem _ hx)
 exact (congrArg (fun (m : Sem (List (Str × Addr))) => m >>= fun cs => pure cs) (gen scope.names [] h)).trans rfl
noncomputable def lcS (nt : Nat) (cs : List Nat) (σ : St) : St := List.replicate nt none ++ cs.map fun i => (σ[i]?).getD none
noncomputable def lcCx (X : Cx) (N' : List Str) (scope : Scope) (s : Shared) (H : Hp) (C : Addr) (fp : List Addr) : Cx :=
 { X with N := N', s₀ := s, H₀ := H, env := compEnvC scope (clos X.env.cells scope.names []) C X.env, outer := X.stack, stack := X.stack, ex := fp, fn := fun _ => false, pn := [], xe := fun _ _ => False }
noncomputable def lcOk (Nx : List Str) (sc scope : Scope) (N' : List Str) (nt : Nat) (cs : List Nat) : Bool :=
 decide (scope.kind = .function) && (scope.names.all fun p => match p.2 with
  | .cell => false
  | .local => decide (scope.names.lookup p.1 = some .local)
  | .free => decide (sc.names.lookup p.1 = some .cell) || decide (sc.names.lookup p.1 = some .free)
  | _ => true) && decide (N'.length = nt + cs.length) && (((N'.drop nt).zip cs).all fun p => decide (Nx[p.2]? = some p.1) && decide (scope.names.lookup p.1 = some .free) && (decide (sc.names.lookup p.1 = some .cell) || decide (sc.names.lookup p.1 = some .free)))
structure LcOk (X : Cx) (scope : Scope) (N' : List Str) (nt : Nat) (cs : List Nat) : Prop where
 kind : scope.kind = .function
 nocell : ∀ y ∈ scope.names, y.2 ≠ .cell
 loc : ∀ y ∈ scope.names, y.2 = .local -> scope.names.lookup y.1 = some .local
 fr : ∀ x, (x, NameKind.free) ∈ scope.names -> X.env.kindOf x = some .cell \/ X.env.kindOf x = some .free
 len : N'.length = nt + cs.length
 cap : ∀ j i, cs[j]? = some i -> ∃ x, N'[nt + j]? = some x /\ X.N[i]? = some x /\ scope.names.lookup x = some .free /\ Vis X.env.scope x /\ X.env.kindOf x ≠ some .local
theorem LcOk.of {X : Cx} {scope : Scope} {N' : List Str} {nt : Nat} {cs : List Nat} {Nx : List Str} {sc : Scope} (hN : X.N = Nx) (hs : X.env.scope = sc) (h : lcOk Nx sc scope N' nt cs = true) : LcOk X scope N' nt cs := by
 subst hN hs
 unfold lcOk at h
 simp only [Bool.and_eq_true, decide_eq_true_eq, List.all_eq_true] at h
 obtain ⟨⟨⟨h1, h2⟩, h3⟩, h4⟩ := h
 refine ⟨h1, fun y hy e => ?_, fun y hy e => ?_, fun x hx => ?_, h3, fun j i e => ?_⟩
 ·have := h2 y hy; rw [e] at this; exact Bool.false_ne_true this
 ·have := h2 y hy; rw [e] at this; exact of_decide_eq_true this
 ·have := h2 _ hx
  simp only [Bool.or_eq_true, decide_eq_true_eq] at this
  exact this
 ·have hj : j < cs.length := (List.getElem?_eq_some_iff.mp e).1
  have hd : (N'.drop nt).length = cs.length := by rw [List.length_drop, h3]; lia
  have hx : (N'.drop nt)[j]? = some ((N'.drop nt)[j]'(by lia)) := by simp [hd, hj]
  generalize (N'.drop nt)[j]'(by lia) = x at hx
  have hz : (x, i) ∈ (N'.drop nt).zip cs := by
   refine List.mem_of_getElem? (i:=j) ?_
   rw [List.getElem?_zip_eq_some]
   exact ⟨hx, e⟩
  have q := h4 _ hz
  simp only [Bool.and_eq_true, Bool.or_eq_true, decide_eq_true_eq] at q
  refine ⟨x, by rw [List.getElem?_drop] at hx; exact hx, q.1.1, q.1.2, ?_, fun z => ?_⟩
  ·exact q.2.elim (fun z => .inr (.inl z)) fun z => .inr (.inr z)
  ·have z' : X.env.scope.names.lookup x = some .local := z
   rcases q.2 with y | y <;> · rw [z'] at y; cases y
theorem zew {env : Env} : ∀ {names : List (Str × NameKind)} {x : Str}, names.lookup x = some .free ->
  (names.map fun (n, k) => if (k == NameKind.free && env.scope.kind == .function && env.kindOf n == some .cell) then (n, NameKind.cell) else (n, k)).lookup x = some .cell \/
  (names.map fun (n, k) => if (k == NameKind.free && env.scope.kind == .function && env.kindOf n == some .cell) then (n, NameKind.cell) else (n, k)).lookup x = some .free
 | [], _, h => by simp at h
 | (n, k) :: r, x, h => by
  have ih := @zew env r x
  show List.lookup x ((if (k == NameKind.free && env.scope.kind == .function && env.kindOf n == some .cell) = true then (n, NameKind.cell) else (n, k)) :: _) = _ \/ List.lookup x ((if (k == NameKind.free && env.scope.kind == .function && env.kindOf n == some .cell) = true then (n, NameKind.cell) else (n, k)) :: _) = _
  cases hx : x == n with
  | true =>
   simp only [List.lookup_cons, hx] at h
   cases h
   by_cases hc : (NameKind.free == NameKind.free && env.scope.kind == .function && env.kindOf n == some .cell) = true
   ·rw [if_pos hc]; left; simp only [List.lookup_cons, hx]
   ·rw [if_neg hc]; right; simp only [List.lookup_cons, hx]
  | false =>
   simp only [List.lookup_cons, hx] at h
   by_cases hc : (k == NameKind.free && env.scope.kind == .function && env.kindOf n == some .cell) = true
   ·rw [if_pos hc]; simp only [List.lookup_cons, hx]; exact ih h
   ·rw [if_neg hc]; simp only [List.lookup_cons, hx]; exact ih h
theorem zdc {env : Env} : ∀ {names : List (Str × NameKind)} {x : Str} {q : NameKind}, (∀ y ∈ names, y.2 ≠ .cell) -> (q = .cell \/ q = .free) ->
  (names.map fun (n, k) => if (k == NameKind.free && env.scope.kind == .function && env.kindOf n == some .cell) then (n, NameKind.cell) else (n, k)).lookup x = some q -> (x, NameKind.free) ∈ names
 | [], _, _, _, _, h => by simp at h
 | (n, k) :: r, x, q, hn, hq, h => by
  have ih := @zdc env r x q (fun y hy => hn y (List.mem_cons_of_mem _ hy)) hq
  have h' : List.lookup x ((if (k == NameKind.free && env.scope.kind == .function && env.kindOf n == some .cell) = true then (n, NameKind.cell) else (n, k)) :: (r.map fun (n, k) => if (k == NameKind.free && env.scope.kind == .function && env.kindOf n == some .cell) then (n, NameKind.cell) else (n, k))) = some q := h
  cases hx : x == n with
  | true =>
   have e : x = n := by simpa using hx
   subst e
   by_cases hc : (k == NameKind.free && env.scope.kind == .function && env.kindOf x == some .cell) = true
   ·simp only [Bool.and_eq_true, beq_iff_eq] at hc
    rw [hc.1.1]; exact List.mem_cons_self
   ·rw [if_neg hc] at h'
    simp only [List.lookup_cons, beq_self_eq_true] at h'
    cases h'
    rcases hq with rfl | rfl
    ·exact absurd rfl (hn (x, .cell) List.mem_cons_self)
    ·exact List.mem_cons_self
  | false =>
   refine List.mem_cons_of_mem _ (ih ?_)
   by_cases hc : (k == NameKind.free && env.scope.kind == .function && env.kindOf n == some .cell) = true
   ·rw [if_pos hc] at h'; simp only [List.lookup_cons, hx] at h'; exact h'
   ·rw [if_neg hc] at h'; simp only [List.lookup_cons, hx] at h'; exact h'
section
variable {X : Cx} {pins : List (Addr × Obj)} {σ : St} {H : Hp} {s s' : Shared} {scope : Scope} {N' : List Str} {nt : Nat} {cs : List Nat} {C : Addr} {fp : List Addr} {h' : Heap} {t' : Nat}
theorem zkk (I : Inv X pins σ H s) (L : LcOk X scope N' nt cs) (hf : ∀ b ∈ fp, FpOk X pins H b) (hC : s.heap.objs.size <= C) (k : ∀ b u, s.heap.get? b = some u -> h'.get? b = some u) (hns : h'.Ns C fun _ => none) (fpo : ∀ b ∈ fp, b < s.heap.objs.size) :
  Inv (lcCx X N' scope s H C fp) [] (lcS nt cs σ) H { s with heap := h', toks := t' } := by
 have hfree : H C = none := I.hok.fresh hC
 have csub : ∀ x c, (clos X.env.cells scope.names []).lookup x = some c -> X.env.cells.lookup x = some c := ze6 _ _ fun x c h => by simp at h
 have chas : ∀ x, (x, NameKind.free) ∈ scope.names -> ((clos X.env.cells scope.names []).lookup x).isSome = true := fun x hx => by
  refine ze9 _ _ x hx ?_
  obtain ⟨c, e⟩ := I.ok.has x (L.fr x hx)
  rw [e]; rfl
 have I4 : Inv X pins σ H { s with heap := h', toks := t' } := I.kept k
 refine ⟨⟨I.ok.mod, L.kind, I.ok.glob, I.ok.blt, hC, fun x y c h1 h2 => I.ok.inj x y c (csub x c h1) (csub y c h2), fun x hx => ?_, fun x c hx => (nomatch hx), I.ok.hd, I.ok.frames, .inl rfl, fun b hb => ⟨?_, fun x c e => ?_⟩, I.bs, Nat.le_trans I.ok.bsz I.sz, fun b o e hb => ?_, fun b hb => ?_, I.stack, I.stkFree⟩,
  rfl, I.bare, Un.kept k, ⟨_, hns, fun i x v e1 e2 e3 => ?_⟩, fun x c e => ?_, hfree, fun x c e => I.freeC x c (csub x c e), fun p hp => absurd (show p ∈ ([] : List (Addr × Obj)) from hp) (by simp), I4.hok, ?_⟩
 ·have hx' : (x, NameKind.free) ∈ scope.names := by
   rcases hx with hx | hx
   ·exact zdc (env:=X.env) L.nocell (.inl rfl) hx
   ·exact zdc (env:=X.env) L.nocell (.inr rfl) hx
  exact Option.isSome_iff_exists.mp (chas x hx')
 ·exact Nat.ne_of_lt (Nat.lt_of_lt_of_le (fpo b hb) hC)
 ·exact (hf b hb).2.2.2.2.1 x c (csub x c e)
 ·obtain ⟨f0, f1, f2, f3, _⟩ := hf b hb
  rcases f3 with z | z
  ·exact I.ok.noex b o e z
  ·exact absurd (Nat.lt_of_lt_of_le (Heap.lt_size e) (Nat.le_trans I.ok.bsz z)) (Nat.lt_irrefl _)
 ·obtain ⟨f0, f1, f2, f3, _⟩ := hf b hb
  intro z
  rcases List.mem_cons.mp (I.stkSub b z) with q | q
  ·exact f1 q
  ·exact f2 q
 ·-- a captured name
  have e2' : (lcS nt cs σ)[i]? = some (some v) := e2
  unfold lcS at e2'
  by_cases hi : i < nt
  ·rw [List.getElem?_append_left (by simpa using hi), List.getElem?_replicate] at e2'
   split at e2' <;> cases e2'
  ·rw [List.getElem?_append_right (by simpa using hi), List.length_replicate, List.getElem?_map] at e2'
   cases ej : cs[i - nt]? with
   | none => rw [ej] at e2'; cases e2'
   | some j =>
    rw [ej] at e2'
    have e2'' : (σ[j]?).getD none = some v := Option.some.inj e2'
    have hσ : σ[j]? = some (some v) := by
     cases q : σ[j]? with
     | none => rw [q] at e2''; cases e2''
     | some z => rw [q] at e2''; exact congrArg some e2''
    obtain ⟨y, y1, y2, y3, y4, y5⟩ := L.cap _ _ ej
    have hxy : x = y := by
     have e1' : N'[i]? = some x := e1
     rw [show nt + (i - nt) = i by lia, e1'] at y1
     exact Option.some.inj y1
    subst hxy
    obtain ⟨m, hn, hl⟩ := I4.loc
    obtain ⟨u, r, l⟩ := hl j x v y2 hσ y4
    refine ⟨u, r, .inr ⟨zew (env:=X.env) y3, ?_⟩⟩
    rcases l with ⟨l, _⟩ | ⟨_, c, hc, hcell⟩
    ·exact absurd l y5
    ·refine ⟨c, ?_, hcell⟩
     obtain ⟨d, hd⟩ := Option.isSome_iff_exists.mp (chas x (PySem.mem_of_lookup y3))
     have := csub x d hd
     rw [hc] at this
     cases this
     exact hd
 ·exact I4.cell x c (csub x c e)
 ·show (lcS nt cs σ).length = N'.length
  unfold lcS
  rw [L.len]; simp
theorem zg6 {σ2 : St} {H2 : Hp} (I : Inv X pins σ H s) (hf : ∀ b ∈ fp, FpOk X pins H b) (J : Inv (lcCx X N' scope s H C fp) [] σ2 H2 s') : Inv X pins σ H2 s' :=
 I.call' (ch:=fp) J.os J.base J.hok J.bare fun b hb => by
  obtain ⟨f0, f1, f2, f3, f4, f5⟩ := hf b hb
  exact ⟨f3, f1, f4, f5⟩
end
noncomputable def PIfs (X : Cx) (ifs : List Expr) (t : TT) : Prop :=
 ∀ (pins : List (Addr × Obj)) (s : Shared) (σ : St) (H : Hp) (Q : Bool -> Hp -> Prop), Inv X pins σ H s -> t σ H Q ->
  wpAny (model X.prog X.w) X.A (forIn ifs true fun c r => if r = true then do let ok <- isTrue c X.env (eval c X.env); pure (ForInStep.yield ok) else pure (ForInStep.yield r)) (TP X pins σ Q) X.xe s
noncomputable def zf8 : TT := fun _ H Q => Q true H
theorem zkn {X : Cx} : PIfs X [] zf8 := fun _ _ _ H _ I h => wpAny_tests_nil ⟨H, I, h⟩
theorem zkv {X : Cx} {c : Expr} {t : TT} (h : PT X c t) : PIfs X [c] t := fun pins s σ H Q I hq => wpAny_tests_one (h pins s σ H Q I hq)
noncomputable def LCG (nt : Nat) (cs : List Nat) (g : TG) (tt : TT) (te : TE) (σ : St) (Q : VK) (J : It) (H1 : Hp) : Prop := ∀ l, H1 l = none -> ∃ W : Nat -> Nat -> Hp -> Prop, (∃ m, W 0 m (upd H1 l (.lst []))) /\ ∀ i m H2, W i m H2 ->
 (J.stop i H2 /\ Q (.ref l) H2) \/ (J.go i H2 /\ ∃ N : Hp -> Prop, (∀ H', N H' -> ∃ m', m' < m /\ W (i + 1) m' H') /\ ∀ x H3, J.yld i H2 x H3 -> g x (lcS nt cs σ) H3 fun σ2 H4 =>
  (σ2.length = nt + cs.length /\ σ2.drop nt = (lcS nt cs σ).drop nt) /\ tt σ2 H4 fun b H5 => if b = true then te σ2 H5 fun y H6 => ∃ xs, H6 l = some (.lst xs) /\ xs.length < sizeLine /\ N (upd H6 l (.lst (xs ++ [y]))) else N H5)
noncomputable def tLC (nt : Nat) (cs : List Nat) (wi : TI) (g : TG) (tt : TT) (te : TE) : TE := fun σ H Q => wi σ H fun J H1 => LCG nt cs g tt te σ Q J H1
theorem zqx {prog : Program} {w : World} {A : Around} {R : Result -> Shared -> Prop} {s : Shared} {elt target iter : Expr} {ifs : List Expr} {scope : Scope} {pos : Pos} {it acc : Value} {env : Env} (I : Nat -> Shared -> Prop)
  (turn : ∀ n s, I n s -> wpAny (model prog w) A (pyNext it) (fun r s₁ => match r with
   | none => R (.ok .next) s₁
   | some v => wpAny (model prog w) A (letOwnedTupleGo target it v) (fun _ s₁' => wpAny (model prog w) A (assign target env v) (fun _ s₂ =>
     wpAny (model prog w) A (forIn ifs true fun c r => if r = true then do let ok <- isTrue c env (eval c env); pure (ForInStep.yield ok) else pure (ForInStep.yield r)) (fun ok s₃ =>
      if ok = true then wpAny (model prog w) A (eval elt env) (fun x s₄ =>
       wpAny (model prog w) A (call (.builtin "list.append") [acc, x]) (fun _ s₅ => ∃ m, m < n /\ I m s₅) (fun _ _ => False) s₄) (fun _ _ => False) s₃
      else ∃ m, m < n /\ I m s₃) (fun _ _ => False) s₂) (fun _ _ => False) s₁') (fun _ _ => False) s₁) (fun _ _ => False) s)
  (n : Nat) (h : I n s) : codeAny (model prog w) A (.compLoop (.ListComp elt [⟨target, iter, ifs, 0⟩] scope pos) 0 it acc env) R s := by
 refine codeAny_loop rfl I (fun n s hI => ?_) n h
 show wpAny _ A ((compTurn (.ListComp elt [⟨target, iter, ifs, 0⟩] scope pos) 0 it acc env).onRaise (fun x => do noteFrame x env; theTreesLotGoes x)) _ _ s
 refine wpAny_noted ?_
 rw [compTurn_list]
 refine wpAny_bind (wpAny_standAt (wpAny_bind (wpAny_mono (turn n s hI) (fun r s₁ h₁ => ?_) fun _ _ h' => h'.elim)))
 cases r with
 | none => exact wpAny_pure h₁
 | some v =>
  refine wpAny_bind (wpAny_mono h₁ (fun _ s₁' h₁' => ?_) fun _ _ h' => h'.elim)
  refine wpAny_bind (wpAny_mono h₁' (fun _ s₂ h₂ => wpAny_bind (wpAny_mono h₂ (fun ok s₃ h₃ => ?_) fun _ _ h' => h'.elim)) fun _ _ h' => h'.elim)
  cases ok with
  | false => exact wpAny_pure ⟨rfl, h₃⟩
  | true =>
   exact wpAny_bind (wpAny_bind (wpAny_mono h₃ (fun x s₄ h₄ => wpAny_bind (wpAny_mono h₄ (fun _ s₅ h₅ => wpAny_pure (wpAny_pure ⟨rfl, h₅⟩)) fun _ _ h' => h'.elim)) fun _ _ h' => h'.elim))
section
variable {X : Cx} {elt target iter : Expr} {ifs : List Expr} {scope : Scope} {pos : Pos} {N' : List Str} {nt : Nat} {cs : List Nat} {wi : TI} {g : TG} {tt : TT} {te : TE}
theorem zp4 {use : Option (Value -> Sem Unit)} {QQ : Value -> Shared -> Prop} {p2 : Pos} (hc : X.calm = true) (L : LcOk X scope N' nt cs) (hi : PI X target iter wi)
  (hg : ∀ s H C fp, PG (lcCx X N' scope s H C fp) target g) (ht : ∀ s H C fp, PIfs (lcCx X N' scope s H C fp) ifs tt) (he : ∀ s H C fp, PE (lcCx X N' scope s H C fp) elt te)
  {pins : List (Addr × Obj)} {s : Shared} {σ : St} {H : Hp} {Q : VK} (I : Inv X pins σ H s) (h : tLC nt cs wi g tt te σ H Q)
  (fin : ∀ (l : Addr) (H' : Hp) (s' : Shared) (C : Addr), Inv X pins σ H' s' -> FpOk X pins H' C -> (∃ m, s'.heap.Ns C m) -> Q (.ref l) H' -> compPost (model X.prog X.w) X.A X.xe use QQ (.ref l) C (.ok .next) s')
  (hs : ∀ x, foldedSetIterable iter X.env x = pure x := by intro _; rfl) :
  wpAny (model X.prog X.w) X.A (comprehension (.ListComp elt [⟨target, iter, ifs, 0⟩] scope pos) scope X.env p2 (newList []) false (eval iter X.env) use) QQ X.xe s := by
 have hcl : closureFor scope X.env = pure (clos X.env.cells scope.names []) := zgt fun x hx => by
  obtain ⟨c, e⟩ := I.ok.has x (L.fr x hx)
  rw [e]; rfl
 refine wpAny_comprehension_free (env:=X.env) rfl hs hcl L.kind L.loc (thn (hi pins s σ H _ I h) fun v s1 h1 => thn h1 fun itv s2 h2 => ?_)
 obtain ⟨it, fp, tn, J, H1, e, I2, T, st2, f2, R⟩ := h2
 subst e
 refine wpAny_newObj_type ?_
 have hv : Vals [] ([] : List Value) := .nil
 have I3 := I2.lnew (t':=s2.toks) hv (Nat.zero_le _)
 have hfr : H1 s2.heap.objs.size = none := I2.fresh
 have ne3 : ∀ b ∈ fp, b ≠ s2.heap.objs.size := fun b hb z => by
  obtain ⟨o, e, _⟩ := T.obj _ _ st2 b hb
  have := Heap.lt_size e
  rw [z] at this
  exact Nat.lt_irrefl _ this
 have f3 : ∀ b ∈ fp, FpOk X pins (upd H1 s2.heap.objs.size (.lst [])) b := fun b hb => ⟨by rw [zaj (ne3 b hb)]; exact (f2 b hb).1, (f2 b hb).2⟩
 obtain ⟨W, ⟨m0, w0⟩, turn⟩ := R _ hfr
 refine wpAny_newFunctionEnv L.nocell (by intro y hy; simp at hy) (fun h4 hns hsb => ?_) L.kind
 dsimp only at hns hsb ⊢
 generalize hH3 : s2.heap.push { cls := .type "list", dict := none, data := .seq ([] : List Value).toArray } = h3 at hns hsb I3 ⊢
 have hsz3 : h3.objs.size = s2.heap.objs.size + 1 := by rw [<- hH3, Heap.size_push]
 have up4 : ∀ b u, h3.get? b = some u -> h4.get? b = some u := fun b u e => hsb.extBut b u (Nat.ne_of_lt (Heap.lt_size e)) (Heap.get?_push_of_some _ e)
 have fpo : ∀ b ∈ fp, b < h3.objs.size := fun b hb => by
  obtain ⟨o, e, _⟩ := T.obj _ _ st2 b hb
  exact Nat.lt_of_lt_of_le (Heap.lt_size e) (by rw [hsz3]; exact Nat.le_succ _)
 have up3 : ∀ b u, s2.heap.get? b = some u -> h3.get? b = some u := fun b u e => hH3 ▸ Heap.get?_push_of_some _ e
 have J4 : Inv (lcCx X N' scope { s2 with heap := h3 } (upd H1 s2.heap.objs.size (.lst [])) h3.objs.size fp) [] (lcS nt cs σ) (upd H1 s2.heap.objs.size (.lst [])) { s2 with heap := h4, toks := s2.toks + ([] : List (Str × Value)).length } :=
  zkk (t':=s2.toks + ([] : List (Str × Value)).length) I3 L f3 (Nat.le_refl _) up4 (by simpa using hns) fpo
 have st4 : tn 0 h4 := T.keep _ _ _ st2 fun b hb o e => up4 b o (up3 b o e)
 generalize hs3 : ({ s2 with heap := h3 } : Shared) = s3 at I3 J4
 generalize hX' : lcCx X N' scope s3 (upd H1 s2.heap.objs.size (.lst [])) h3.objs.size fp = X' at J4
 have hg' : PG X' target g := hX' ▸ hg _ _ _ _
 have ht' : PIfs X' ifs tt := hX' ▸ ht _ _ _ _
 have he' : PE X' elt te := hX' ▸ he _ _ _ _
 have stat : ∀ {H' : Hp}, (∀ b ∈ fp, H' b = none) -> ∀ b ∈ fp, FpOk X' [] H' b := fun hn b hb => by
  subst hX'
  refine ⟨hn b hb, Nat.ne_of_lt (fpo b hb), J4.ok.exfs b hb, .inl hb, (J4.ok.exf b hb).2, fun p hp => absurd (show p ∈ ([] : List (Addr × Obj)) from hp) (by simp)⟩
 have loop : codeAny (model X.prog X.w) X.A (.compLoop (.ListComp elt [⟨target, iter, ifs, 0⟩] scope pos) 0 (.ref it) (.ref s2.heap.objs.size) (compEnvC scope (clos X.env.cells scope.names []) h3.objs.size X.env))
   (compPost (model X.prog X.w) X.A X.xe use QQ (.ref s2.heap.objs.size) h3.objs.size) { s2 with heap := h4, toks := s2.toks + ([] : List (Str × Value)).length } := by
  have eA : X'.A = X.A := by subst hX'; rfl
  have eP : X'.prog = X.prog := by subst hX'; rfl
  have eW : X'.w = X.w := by subst hX'; rfl
  have eK : X'.K = X.K := by subst hX'; rfl
  have eC : X'.calm = true := by subst hX'; exact hc
  have eE : X'.env = compEnvC scope (clos X.env.cells scope.names []) h3.objs.size X.env := by subst hX'; rfl
  have eX : X'.xe = fun _ _ => False := by subst hX'; rfl
  refine zqx (fun n s' => ∃ i H', Inv X' [] (lcS nt cs σ) H' s' /\ tn i s'.heap /\ (∀ b ∈ fp, H' b = none) /\ W i n H') ?_ m0 ⟨0, _, J4, st4, fun b hb => (f3 b hb).1, w0⟩
  rintro n s5 ⟨i, H5, J5, st5, fr5, w5⟩
  rcases turn i n H5 w5 with ⟨stop, qn⟩ | ⟨go, N, hN, step⟩
  ·have d := T.done X' eP eW eK eC i [] s5 (lcS nt cs σ) H5 (fun _ _ => False) J5 (stat fr5) st5 stop
   rw [eA] at d
   refine thn d fun r s6 hz9 => ?_
   obtain ⟨hr, J6⟩ := hz9
   subst hr
   have I6 : Inv X pins σ H5 s6 := by subst hX'; subst hs3; exact zg6 I3 f3 J6
   refine fin _ H5 s6 h3.objs.size I6 ?_ ?_ qn
   ·have hn : H5 h3.objs.size = none := by subst hX'; exact J6.free
    subst hs3
    exact I3.fpOk (Nat.le_refl _) hn
   ·obtain ⟨m, hm, _⟩ := J6.loc
    subst hX'
    exact ⟨m, hm⟩
  ·have d := T.item X' eP eW eK eC i [] s5 (lcS nt cs σ) H5 (fun _ _ => False) J5 (stat fr5) st5 go
   rw [eA] at d
   refine thn d fun r s6 hz9 => ?_
   obtain ⟨u, hr, h6⟩ := hz9
   subst hr
   refine thn h6 fun _ s7 hz9 => ?_
   obtain ⟨x, H7, J7, r7, y7, st7, fr7⟩ := hz9
   have J7' := J7.pinned (stat fr7) (T.obj _ _ st7)
   have a := hg' _ s7 (lcS nt cs σ) H7 x u _ J7' r7 (step x H7 y7)
   rw [eA, eP, eW, eE, eX] at a
   refine thn a fun _ s8 ⟨σ8, H8, J8, ⟨e8, d8⟩, q8⟩ => ?_
   have b := ht' _ s8 σ8 H8 _ J8 q8
   rw [eA, eP, eW, eE, eX] at b
   have again : ∀ {s9 : Shared} {H9 : Hp}, Inv X' ([] ++ zgr fp s7.heap) σ8 H9 s9 -> N H9 -> ∃ m, m < n /\ ∃ i H', Inv X' [] (lcS nt cs σ) H' s9 /\ tn i s9.heap /\ (∀ b ∈ fp, H' b = none) /\ W i m H' := fun {s9 H9} J9 n9 => by
    obtain ⟨m', hm, w9⟩ := hN H9 n9
    refine ⟨m', hm, i + 1, H9, ?_, T.keep _ _ _ st7 fun b hb o e => (J9.pin (b, o) (List.mem_append_right _ (List.mem_append_right _ (zcc hb e)))).1, fun b hb => ?_, w9⟩
    ·refine J9.unpinned.weak ?_ fun j v ej => ?_
     ·rw [e8]; unfold lcS; simp
     ·by_cases hj : j < nt
      ·unfold lcS at ej
       rw [List.getElem?_append_left (by simpa using hj), List.getElem?_replicate] at ej
       split at ej <;> cases ej
      ·have z := congrArg (fun l : St => l[j - nt]?) d8
       simp only [List.getElem?_drop] at z
       rw [show nt + (j - nt) = j by omega] at z
       rw [z]; exact ej
    ·obtain ⟨o, e, _⟩ := T.obj _ _ st7 b hb
     exact (J9.pin (b, o) (List.mem_append_right _ (List.mem_append_right _ (zcc hb e)))).2.1
   refine thn b fun ok s9 hz9 => ?_
   obtain ⟨H9, J9, q9⟩ := hz9
   cases ok with
   | false =>
    rw [if_neg Bool.false_ne_true] at q9 ⊢
    exact again J9 q9
   | true =>
    rw [if_pos rfl] at q9 ⊢
    have c := he' _ s9 σ8 H9 _ J9 q9
    rw [eA, eP, eW, eE, eX] at c
    refine thn c fun y sA hz9 => ?_
    obtain ⟨vy, HA, JA, ry, xs, hl, hz, nA⟩ := hz9
    have ap := zd6 (X:=X') _ sA σ8 HA (.ref s2.heap.objs.size) [vy] (.ref s2.heap.objs.size) [y] (fun _ H' => N H') JA rfl (.cons ry .nil) ⟨_, xs, vy, rfl, rfl, hl, hz, nA⟩
    rw [eA, eP, eW, eX] at ap
    refine thn ap fun _ sB hz9 => ?_
    obtain ⟨_, HB, JB, _, nB⟩ := hz9
    exact again JB nB
 exact codeAny_compStart_list loop (T.self X.A 0 _ _ _ st4 loop)
theorem zqy (hc : X.calm = true) (L : LcOk X scope N' nt cs) (hi : PI X target iter wi)
  (hg : ∀ s H C fp, PG (lcCx X N' scope s H C fp) target g) (ht : ∀ s H C fp, PIfs (lcCx X N' scope s H C fp) ifs tt) (he : ∀ s H C fp, PE (lcCx X N' scope s H C fp) elt te)
  (hs : ∀ x, foldedSetIterable iter X.env x = pure x := by intro _; rfl) : PE X (.ListComp elt [⟨target, iter, ifs, 0⟩] scope pos) (tLC nt cs wi g tt te) := by
 intro pins s σ H Q I h
 rw [eval_ListComp]
 refine zp4 (use:=none) hc L hi hg ht he I h (fun l H' s' C I' f ⟨m, hm⟩ q => ⟨m, hm, fun h' hs' => ?_⟩) hs
 obtain ⟨f0, f1, f2, f3, f4, f5⟩ := f
 exact ⟨.ref l, H', I'.turned (t':=s'.toks) (fun b o hb e => hs'.extBut b o hb e) f0 f1 f3 f4 f5, rfl, q⟩
end
end L2
namespace L2
open PySem PySem.Spec PyProof.Rows
section
variable {X : Cx} {a b : Expr} {ta tb : TE} {pos : Pos}
theorem ze0 : zco X (.builtin "isinstance") (fun xs H Q => ∃ x, xs = [.int x, .ty "int"] /\ Q (.bl true) H) := by
 intro pins s σ H xs us Q I r h
 obtain ⟨x, rfl, q⟩ := h
 obtain ⟨u, v, rfl, ⟨t, rfl⟩, rfl⟩ := zi5 r
 exact IsiPair.int_int ⟨.bl true, H, I, rfl, q⟩
theorem zek : zco X (.builtin "isinstance") (fun xs H Q => ∃ x, xs = [.int x, .ty "bool"] /\ Q (.bl false) H) := by
 intro pins s σ H xs us Q I r h
 obtain ⟨x, rfl, q⟩ := h
 obtain ⟨u, v, rfl, ⟨t, rfl⟩, rfl⟩ := zi5 r
 exact IsiPair.int_bool ⟨.bl false, H, I.tok _, rfl, q⟩
end
end L2
namespace L2
open PySem PySem.Spec PyProof.Rows
theorem SqL.same {K : PySem.W.Frag} {H H' : Hp} {a : Addr} {xs : List V} (e : Same H H') (h : SqL K H a xs) : SqL K H' a xs := e.seq h
theorem SqT.same {K : PySem.W.Frag} {H H' : Hp} {a : Addr} {xs : List V} (e : Same H H') (h : SqT K H a xs) : SqT K H' a xs := by
 rcases h with (h | ⟨o, h⟩) | h
 ·exact .inl (.inl (e _ _ h))
 ·exact .inl (.inr ⟨o, e _ _ h⟩)
 ·exact .inr h
theorem Same.upd {H : Hp} {l : Addr} {o : HO} (h : H l = none) : Same H (upd H l o) := fun b u e => by rw [zaj (zam e h)]; exact e
end L2
namespace L2
open PySem
end L2
namespace L2
open PySem
end L2
namespace L2
open PySem
end L2
namespace L2
open PySem PySem.Spec PyProof.Rows
section
variable {X : Cx} {pins : List (Addr × Obj)} {σ : St} {H : Hp} {s : Shared} {h' : Heap} {t' : Nat} {wr : List Addr}
theorem Inv.turns (I : Inv X pins σ H s) (hf : ∀ b ∈ wr, FpOk X pins H b) (k : ∀ b o, b ∉ wr -> s.heap.get? b = some o -> h'.get? b = some o) : Inv X pins σ H { s with heap := h', toks := t' } := by
 have nw : ∀ b u, H b = some u -> b ∉ wr := fun b u e z => by have := (hf b z).1; rw [e] at this; cases this
 have nL : X.env.locals ∉ wr := fun z => (hf _ z).2.1 rfl
 refine I.step (g':=s.gens) (d':=s.drawn) (ch:=wr) (fun b hb => ?_) (fun b o _ _ hc e _ => k b o hc e) (fun b o _ _ hc e _ => ⟨o.slots, k b o hc e⟩) (fun _ _ _ _ n => n)
  (fun b o hc e => ⟨o, k b o hc e⟩) (fun _ _ e => e) (fun _ _ _ e => e) (fun b ps e => ⟨#[], by rw [e]; simp⟩) (fun m hm => ?_) (fun b u e => ?_) I.bare
 ·obtain ⟨f0, f1, f2, f3, f4, f5⟩ := hf b hb
  exact ⟨f3, f1, f4, f5⟩
 ·obtain ⟨o, es, ep, ho, r⟩ := hm
  exact ⟨o, es, ep, k _ o nL ho, r⟩
 ·refine (I.hok b u e).stay (fun c v hc q => k c v ?_ q) (fun _ q => q) fun _ _ q => q
  rcases hc with z | z
  ·rw [z]; exact nw b u e
  ·exact nw c _ z
theorem Inv.turnsT (I : Inv X pins σ H s) {T0 : Addr} {vs : List V} {vals : Array Value} (hf : ∀ b ∈ wr, FpOk X pins H b) (k : ∀ b o, b ∉ wr -> s.heap.get? b = some o -> h'.get? b = some o) (hT : s.heap.objs.size <= T0) (ht : h'.IsTuple T0 vals) (hv : Vals vs vals.toList)
  (hz : vs.length <= sizeLine) : Inv X pins σ (upd H T0 (.tup vs)) { s with heap := h', toks := t' } := by
 have nw : ∀ b u, H b = some u -> b ∉ wr := fun b u e z => by have := (hf b z).1; rw [e] at this; cases this
 have nL : X.env.locals ∉ wr := fun z => (hf _ z).2.1 rfl
 have fresh : H T0 = none := I.hok.fresh hT
 have ne : ∀ b o, s.heap.get? b = some o -> b ≠ T0 := fun b o e => Nat.ne_of_lt (Nat.lt_of_lt_of_le (Heap.lt_size e) hT)
 refine I.step (g':=s.gens) (d':=s.drawn) (ch:=wr) (fun b hb => ?_) (fun b o _ _ hc e _ => k b o hc e) (fun b o _ _ hc e _ => ⟨o.slots, k b o hc e⟩) (fun b o _ e n => by rw [zaj (ne b o e)]; exact n)
  (fun b o hc e => ⟨o, k b o hc e⟩) (fun b xs e => by rw [zaj (zam e fresh)]; exact e) (fun b o u e => by rw [zaj (zam e fresh)]; exact e) (fun b ps e => ⟨#[], by rw [zaj (zam e fresh), e]; simp⟩) (fun m hm => ?_) (fun b u e => ?_) I.bare
 ·obtain ⟨f0, f1, f2, f3, f4, f5⟩ := hf b hb
  exact ⟨f3, f1, f4, f5⟩
 ·obtain ⟨o, es, ep, ho, r⟩ := hm
  exact ⟨o, es, ep, k _ o nL ho, r⟩
 ·by_cases hb : b = T0
  ·subst hb
   rw [zah] at e
   cases e
   have ht2 : h'.IsTuple b vals.toList.toArray := by simpa using ht
   exact ⟨hz, vals.toList, hv, ht2⟩
  ·rw [zaj hb] at e
   refine (I.hok b u e).stay (fun c v hc q => k c v ?_ q) (fun c q => by rw [zaj (zam q fresh)]; exact q) fun c xs q => by rw [zaj (zam q fresh)]; exact q
   rcases hc with z | z
   ·rw [z]; exact nw b u e
   ·exact nw c _ z
end
end L2
namespace L2
open PySem PySem.Spec PyProof.Rows
section
variable {X : Cx} {e1 e2 e3 : Expr} {ta : TA} {p pos : Pos} {tg : Expr}
theorem zsr {x y z : V} {us : List Value} (r : Vals [x, y, z] us) : ∃ u v w', us = [u, v, w'] /\ RelV x u /\ RelV y v /\ RelV z w' := by
 cases r with
 | cons r1 r2 =>
  obtain ⟨v, w', rfl, a, b⟩ := zi5 r2
  exact ⟨_, v, w', rfl, r1, a, b⟩
end
end L2
namespace L2
open PySem PySem.Spec PyProof.Rows
end L2
namespace L2
open PySem
end L2
namespace L2
open PySem PySem.Spec PyProof.Rows
structure ZipAp (z TI TO i1 i2 : Addr) (fp1 fp2 : List Addr) : Prop where
 TIz : TI ≠ z
 TOz : TO ≠ z
 i1z : i1 ≠ z
 i2z : i2 ≠ z
 TITO : TI ≠ TO
 TIi1 : TI ≠ i1
 TIi2 : TI ≠ i2
 TOi1 : TO ≠ i1
 TOi2 : TO ≠ i2
 i12 : i1 ≠ i2
 m1 : i1 ∈ fp1
 m2 : i2 ∈ fp2
 f1 : ∀ b ∈ fp1, b ≠ z /\ b ≠ TO /\ b ≠ i2
 f2 : ∀ b ∈ fp2, b ≠ z /\ b ≠ TO /\ b ≠ i1
end L2
namespace L2
open PySem PySem.Spec PyProof.Rows
end L2
namespace L2
open PySem
end L2
namespace L2
open PySem PySem.Spec PyProof.Rows
inductive D where
 | non | bl (b : Bool) | int (i : Int) | str (l : List Nat) | lst (xs : List D) | tup (xs : List D) | dct (ks vs : List D) | dctT (ks vs : List D) | ins (C : Addr) (ns : List Str) (vs : List D)
noncomputable instance : Inhabited D := ⟨.non⟩
noncomputable instance : DecidableEq D := Classical.typeDecidableEq D
mutual
noncomputable def D.dep : D -> Nat
 | .lst a => D.deps a + 1
 | .tup a => D.deps a + 1
 | _ => 0
noncomputable def D.deps : List D -> Nat
 | [] => 0
 | a :: x => max a.dep (D.deps x)
end
mutual
noncomputable def D.nb : D -> Bool
 | .bl _ => false
 | .dct _ _ => false
 | .dctT _ _ => false
 | .ins _ _ _ => false
 | .lst a => D.nbs a
 | .tup a => D.nbs a
 | _ => true
noncomputable def D.nbs : List D -> Bool
 | [] => true
 | a :: x => a.nb && D.nbs x
end
section
variable (K : PySem.W.Frag) (H : Hp)
mutual
noncomputable def Rep : D -> V -> Prop
 | .non, v => v = .non
 | .bl b, v => v = .bl b
 | .int i, v => v = .int i
 | .str l, v => v = .str (T l) /\ ∀ c ∈ l, c < 128
 | .lst ds, v => ∃ p xs, v = .ref p /\ SqL K H p xs /\ Reps ds xs
 | .tup ds, v => ∃ p xs, v = .ref p /\ SqT K H p xs /\ Reps ds xs
 | .dct ks vs, v => ∃ p kv, v = .ref p /\ H p = some (.dK kv) /\ Reps ks (kv.map fun q => kV q.1) /\ Reps vs (kv.map fun q => q.2)
 | .dctT ks vs, v => ∃ p kv, v = .ref p /\ H p = some (.dT kv) /\ TKs ks (kv.map fun q => q.1) /\ Reps vs (kv.map fun q => q.2)
 | .ins C ns vs, v => ∃ x dx fs, v = .ref x /\ H x = some (.ins C dx fs) /\ H dx = some (.own x) /\ fs.map (fun q => q.1) = ns /\ Reps vs (fs.map fun q => q.2)
noncomputable def TK : D -> List Key -> Prop
 | .tup es, k => Reps es (k.map kV)
 | _, _ => False
noncomputable def TKs : List D -> List (List Key) -> Prop
 | [], ks => ks = []
 | d :: ds, ks => ∃ k r, ks = k :: r /\ TK d k /\ TKs ds r
noncomputable def Reps : List D -> List V -> Prop
 | [], xs => xs = []
 | d :: ds, xs => ∃ x r, xs = x :: r /\ Rep d x /\ Reps ds r
end
end
section
variable {K : PySem.W.Frag} {H H' : Hp}
mutual
theorem Rep.mono (s : Same H H') : ∀ {d : D} {v : V}, Rep K H d v -> Rep K H' d v
 | .non, _, h => by simpa [Rep] using h
 | .bl _, _, h => by simpa [Rep] using h
 | .int _, _, h => by simpa [Rep] using h
 | .str _, _, h => by simpa [Rep] using h
 | .lst ds, _, h => by
  rw [Rep] at h ⊢
  obtain ⟨p, xs, e, q, r⟩ := h
  exact ⟨p, xs, e, SqL.same s q, Reps.mono s r⟩
 | .tup ds, _, h => by
  rw [Rep] at h ⊢
  obtain ⟨p, xs, e, q, r⟩ := h
  exact ⟨p, xs, e, SqT.same s q, Reps.mono s r⟩
 | .dct ks vs, _, h => by
  rw [Rep] at h ⊢
  obtain ⟨p, kv, e, q, r1, r2⟩ := h
  exact ⟨p, kv, e, s _ _ q, Reps.mono s r1, Reps.mono s r2⟩
 | .dctT ks vs, _, h => by
  rw [Rep] at h ⊢
  obtain ⟨p, kv, e, q, r1, r2⟩ := h
  exact ⟨p, kv, e, s _ _ q, TKs.mono s r1, Reps.mono s r2⟩
 | .ins C ns vs, _, h => by
  rw [Rep] at h ⊢
  obtain ⟨x, dx, fs, e, q1, q2, hn, r⟩ := h
  exact ⟨x, dx, fs, e, s _ _ q1, s _ _ q2, hn, Reps.mono s r⟩
theorem TK.mono (s : Same H H') : ∀ {d : D} {k : List Key}, TK K H d k -> TK K H' d k
 | .tup es, _, h => by rw [TK] at h ⊢; exact Reps.mono s h
 | .non, _, h => by simp [TK] at h
 | .bl _, _, h => by simp [TK] at h
 | .int _, _, h => by simp [TK] at h
 | .str _, _, h => by simp [TK] at h
 | .lst _, _, h => by simp [TK] at h
 | .dct _ _, _, h => by simp [TK] at h
 | .dctT _ _, _, h => by simp [TK] at h
 | .ins _ _ _, _, h => by simp [TK] at h
theorem TKs.mono (s : Same H H') : ∀ {ds : List D} {ks : List (List Key)}, TKs K H ds ks -> TKs K H' ds ks
 | [], _, h => by rw [TKs] at h ⊢; exact h
 | d :: ds, _, h => by
  rw [TKs] at h ⊢
  obtain ⟨k, r, e, a, b⟩ := h
  exact ⟨k, r, e, TK.mono s a, TKs.mono s b⟩
theorem Reps.mono (s : Same H H') : ∀ {ds : List D} {xs : List V}, Reps K H ds xs -> Reps K H' ds xs
 | [], _, h => by simpa [Reps] using h
 | d :: ds, _, h => by
  rw [Reps] at h ⊢
  obtain ⟨x, r, e, a, b⟩ := h
  exact ⟨x, r, e, Rep.mono s a, Reps.mono s b⟩
end
theorem Reps.nil : Reps K H [] [] := by rw [Reps]
theorem Reps.cons {d : D} {ds : List D} {x : V} {xs : List V} (a : Rep K H d x) (b : Reps K H ds xs) : Reps K H (d :: ds) (x :: xs) := by rw [Reps]; exact ⟨x, xs, rfl, a, b⟩
theorem Reps.length : ∀ {ds : List D} {xs : List V}, Reps K H ds xs -> ds.length = xs.length
 | [], _, h => by rw [Reps] at h; subst h; rfl
 | d :: ds, _, h => by
  rw [Reps] at h
  obtain ⟨x, r, rfl, _, b⟩ := h
  simp [b.length]
theorem Reps.get : ∀ {ds : List D} {xs : List V} {i : Nat} {x : V}, Reps K H ds xs -> xs[i]? = some x -> ∃ d, ds[i]? = some d /\ Rep K H d x
 | [], _, _, _, h, e => by rw [Reps] at h; subst h; simp at e
 | d :: ds, _, 0, _, h, e => by
  rw [Reps] at h
  obtain ⟨y, r, rfl, a, _⟩ := h
  cases e
  exact ⟨d, rfl, a⟩
 | d :: ds, _, i + 1, _, h, e => by
  rw [Reps] at h
  obtain ⟨y, r, rfl, _, b⟩ := h
  exact Reps.get (i:=i) b e
theorem Reps.get' : ∀ {ds : List D} {xs : List V} {i : Nat} {d : D}, Reps K H ds xs -> ds[i]? = some d -> ∃ x, xs[i]? = some x /\ Rep K H d x := fun {ds xs i d} h e => by
 have hl := h.length
 have hi := (List.getElem?_eq_some_iff.mp e).1
 obtain ⟨d', e', r⟩ := h.get (i:=i) (x:=xs[i]'(by lia)) (List.getElem?_eq_getElem _)
 rw [e] at e'; cases e'
 exact ⟨_, List.getElem?_eq_getElem _, r⟩
theorem Reps.append : ∀ {ds es : List D} {xs ys : List V}, Reps K H ds xs -> Reps K H es ys -> Reps K H (ds ++ es) (xs ++ ys)
 | [], _, _, _, h, h2 => by rw [Reps] at h; subst h; exact h2
 | d :: ds, _, _, _, h, h2 => by
  rw [Reps] at h
  obtain ⟨y, r, rfl, a, b⟩ := h
  exact Reps.cons a (Reps.append b h2)
theorem Reps.snoc {ds : List D} {xs : List V} {d : D} {x : V} (h : Reps K H ds xs) (a : Rep K H d x) : Reps K H (ds ++ [d]) (xs ++ [x]) := h.append (.cons a .nil)
theorem Reps.drop : ∀ (n : Nat) {ds : List D} {xs : List V}, Reps K H ds xs -> Reps K H (ds.drop n) (xs.drop n)
 | 0, _, _, h => h
 | n + 1, [], _, h => by rw [Reps] at h; subst h; exact Reps.nil
 | n + 1, d :: ds, _, h => by
  rw [Reps] at h
  obtain ⟨y, r, rfl, _, b⟩ := h
  exact Reps.drop n b
theorem Reps.take : ∀ (n : Nat) {ds : List D} {xs : List V}, Reps K H ds xs -> Reps K H (ds.take n) (xs.take n)
 | 0, _, _, h => Reps.nil
 | n + 1, [], _, h => by rw [Reps] at h; subst h; exact Reps.nil
 | n + 1, d :: ds, _, h => by
  rw [Reps] at h
  obtain ⟨y, r, rfl, a, b⟩ := h
  exact Reps.cons a (Reps.take n b)
theorem Rep.lst {ds : List D} {p : Addr} {xs : List V} (q : SqL K H p xs) (r : Reps K H ds xs) : Rep K H (.lst ds) (.ref p) := by rw [Rep]; exact ⟨p, xs, rfl, q, r⟩
theorem Rep.tup {ds : List D} {p : Addr} {xs : List V} (q : SqT K H p xs) (r : Reps K H ds xs) : Rep K H (.tup ds) (.ref p) := by rw [Rep]; exact ⟨p, xs, rfl, q, r⟩
theorem Rep.int {i : Int} : Rep K H (.int i) (.int i) := by rw [Rep]
theorem Rep.bl {b : Bool} : Rep K H (.bl b) (.bl b) := by rw [Rep]
theorem Rep.str {l : List Nat} (h : ∀ c ∈ l, c < 128) : Rep K H (.str l) (.str (T l)) := by rw [Rep]; exact ⟨rfl, h⟩
theorem Rep.non : Rep K H .non .non := by rw [Rep]
theorem Rep.of_int {i : Int} {v : V} (h : Rep K H (.int i) v) : v = .int i := by rw [Rep] at h; exact h
theorem Rep.of_bl {b : Bool} {v : V} (h : Rep K H (.bl b) v) : v = .bl b := by rw [Rep] at h; exact h
theorem Rep.of_str {l : List Nat} {v : V} (h : Rep K H (.str l) v) : v = .str (T l) := by rw [Rep] at h; exact h.1
theorem Rep.asc {l : List Nat} {v : V} (h : Rep K H (.str l) v) : ∀ c ∈ l, c < 128 := by rw [Rep] at h; exact h.2
theorem Rep.of_non {v : V} (h : Rep K H .non v) : v = .non := by rw [Rep] at h; exact h
theorem Rep.of_lst {ds : List D} {v : V} (h : Rep K H (.lst ds) v) : ∃ p xs, v = .ref p /\ SqL K H p xs /\ Reps K H ds xs := by rw [Rep] at h; exact h
theorem Rep.of_tup {ds : List D} {v : V} (h : Rep K H (.tup ds) v) : ∃ p xs, v = .ref p /\ SqT K H p xs /\ Reps K H ds xs := by rw [Rep] at h; exact h
theorem Rep.of_ins {C : Addr} {ns : List Str} {vs : List D} {v : V} (h : Rep K H (.ins C ns vs) v) : ∃ x dx fs, v = .ref x /\ H x = some (.ins C dx fs) /\ H dx = some (.own x) /\ fs.map (fun q => q.1) = ns /\ Reps K H vs (fs.map fun q => q.2) := by rw [Rep] at h; exact h
theorem Rep.ins {C x dx : Addr} {fs : List (Str × V)} {vs : List D} (q1 : H x = some (.ins C dx fs)) (q2 : H dx = some (.own x)) (r : Reps K H vs (fs.map fun q => q.2)) : Rep K H (.ins C (fs.map fun q => q.1) vs) (.ref x) := by rw [Rep]; exact ⟨x, dx, fs, rfl, q1, q2, rfl, r⟩
end
structure Ext (G H₀ F H : Hp) : Prop where
 gf : Same G F
 fh : Same F H
 hh : Same H₀ H
 no : ∀ b o, H₀ b = some o -> F b = G b
theorem Ext.refl {G H : Hp} (s : Same G H) : Ext G H G H := ⟨Same.refl _, s, Same.refl _, fun _ _ _ => rfl⟩
theorem Ext.trans {G H F1 H1 F2 H2 : Hp} (a : Ext G H F1 H1) (b : Ext F1 H1 F2 H2) : Ext G H F2 H2 :=
 ⟨a.gf.trans b.gf, b.fh, a.hh.trans b.hh, fun c o e => (b.no c o (a.hh c o e)).trans (a.no c o e)⟩
theorem Ext.newF {G H₀ F H : Hp} (x : Ext G H₀ F H) {p : Addr} {o : HO} (hp : H p = none) : Ext G H₀ (upd F p o) (upd H p o) := by
 have fp : F p = none := x.fh.free hp
 refine ⟨x.gf.trans (Same.upd fp), fun b u e => ?_, x.hh.trans (Same.upd hp), fun b u e => ?_⟩
 ·by_cases hb : b = p
  ·subst hb; rw [zah] at e ⊢; exact e
  ·rw [zaj hb] at e ⊢; exact x.fh b u e
 ·have hb : b ≠ p := fun z => by subst z; have := x.hh b u e; rw [hp] at this; cases this
  rw [zaj hb]; exact x.no b u e
theorem Ext.newO {G H₀ F H : Hp} (x : Ext G H₀ F H) {p : Addr} {o : HO} (hp : H p = none) : Ext G H₀ F (upd H p o) :=
 ⟨x.gf, x.fh.trans (Same.upd hp), x.hh.trans (Same.upd hp), x.no⟩
theorem Ext.write {G H₀ F H : Hp} (x : Ext G H₀ F H) {p : Addr} {o : HO} (fp : F p = none) (hp : H₀ p = none) : Ext G H₀ F (upd H p o) :=
 ⟨x.gf, fun b u e => by rw [zaj (zam e fp)]; exact x.fh b u e, fun b u e => by rw [zaj (zam e hp)]; exact x.hh b u e, x.no⟩
theorem Ext.freeze {G H₀ F H : Hp} (x : Ext G H₀ F H) {p : Addr} {o : HO} (fp : F p = none) (hp : H₀ p = none) (e : H p = some o) : Ext G H₀ (upd F p o) H := by
 refine ⟨x.gf.trans (Same.upd fp), fun b u q => ?_, x.hh, fun b u q => ?_⟩
 ·by_cases hb : b = p
  ·subst hb; rw [zah] at q; cases q; exact e
  ·rw [zaj hb] at q; exact x.fh b u q
 ·rw [zaj (zam q hp)]; exact x.no b u q
inductive Sl where
 | un | d (x : D) | o (p : Addr) (xs : List D) | oo (p : Addr) (qs : List (Addr × List D)) | g (v : V) (as : List Addr) (W : Hp -> Hp -> Prop)
noncomputable def Sl.ads : Sl -> List Addr
 | .un => [] | .d _ => [] | .o p _ => [p] | .oo p qs => p :: qs.map (·.1) | .g _ as _ => as
noncomputable def OwnL (K : PySem.W.Frag) (H₀ F H : Hp) (p : Addr) (xs : List D) : Prop := H₀ p = none /\ F p = none /\ ∃ vs, H p = some (.lst vs) /\ Reps K F xs vs
noncomputable def Stab (as : List Addr) (W : Hp -> Hp -> Prop) : Prop := ∀ F1 H1 F2 H2 : Hp, Same F1 F2 -> (∀ a ∈ as, H2 a = H1 a) -> W F1 H1 -> W F2 H2
noncomputable def SlOk (K : PySem.W.Frag) (H₀ F H : Hp) (ov : Option V) : Sl -> Prop
 | .un => True
 | .d x => ∃ v, ov = some v /\ Rep K F x v
 | .o p xs => ov = some (.ref p) /\ OwnL K H₀ F H p xs
 | .oo p qs => ov = some (.ref p) /\ H₀ p = none /\ F p = none /\ H p = some (.lst (qs.map fun q => V.ref q.1)) /\ ∀ q ∈ qs, OwnL K H₀ F H q.1 q.2
 | .g v as W => ov = some v /\ (∀ a ∈ as, H₀ a = none /\ F a = none /\ ∃ o, H a = some o) /\ W F H /\ Stab as W
structure Sat (K : PySem.W.Frag) (G H₀ L F H : Hp) (σ : St) (ss : List Sl) : Prop where
 ext : Ext G H₀ F H
 fl : Same L F
 len : σ.length = ss.length
 ok : ∀ (i : Nat) s, ss[i]? = some s -> SlOk K H₀ F H (σ.getD i none) s
 nd : ∀ (i : Nat) s, ss[i]? = some s -> s.ads.Nodup
 ne : ∀ (i j : Nat) s s', i ≠ j -> ss[i]? = some s -> ss[j]? = some s' -> ∀ p ∈ s.ads, p ∉ s'.ads
section
variable {K : PySem.W.Frag} {H₀ F H F' H' : Hp}
theorem OwnL.ext2 {p : Addr} {xs : List D} (h : OwnL K H₀ F H p xs) (e : Ext F H F' H') : OwnL K H₀ F' H' p xs := by
 obtain ⟨h0, fp, vs, hp, r⟩ := h
 exact ⟨h0, (e.no p _ hp).trans fp, vs, e.hh p _ hp, r.mono e.gf⟩
theorem SlOk.ext2 {ov : Option V} {s : Sl} (h : SlOk K H₀ F H ov s) (e : Ext F H F' H') : SlOk K H₀ F' H' ov s := by
 cases s with
 | un => trivial
 | d x => obtain ⟨v, ev, r⟩ := h; exact ⟨v, ev, r.mono e.gf⟩
 | o p xs => exact ⟨h.1, h.2.ext2 e⟩
 | oo p qs =>
  obtain ⟨ev, h0, fp, hp, hq⟩ := h
  exact ⟨ev, h0, (e.no p _ hp).trans fp, e.hh p _ hp, fun q hm => (hq q hm).ext2 e⟩
 | g v as W =>
  obtain ⟨ev, ha, hw, st⟩ := h
  refine ⟨ev, fun a hm => ?_, st _ _ _ _ e.gf (fun a hm => ?_) hw, st⟩
  ·obtain ⟨h0, fa, o, ho⟩ := ha a hm
   exact ⟨h0, (e.no a _ ho).trans fa, o, e.hh a _ ho⟩
  ·obtain ⟨h0, fa, o, ho⟩ := ha a hm
   rw [e.hh a _ ho, ho]
theorem OwnL.updNe {p a : Addr} {o : HO} {xs : List D} (h : OwnL K H₀ F H p xs) (hn : p ≠ a) : OwnL K H₀ F (upd H a o) p xs := by
 obtain ⟨h0, fp, vs, hp, r⟩ := h
 exact ⟨h0, fp, vs, by rw [zaj hn]; exact hp, r⟩
theorem SlOk.updNe {ov : Option V} {s : Sl} {a : Addr} {o : HO} (h : SlOk K H₀ F H ov s) (hn : a ∉ s.ads) : SlOk K H₀ F (upd H a o) ov s := by
 cases s with
 | un => trivial
 | d x => exact h
 | o p xs => exact ⟨h.1, h.2.updNe fun z => hn (by simp [Sl.ads, z])⟩
 | oo p qs =>
  obtain ⟨ev, h0, fp, hp, hq⟩ := h
  refine ⟨ev, h0, fp, by rw [zaj fun z => hn (by simp [Sl.ads, z])]; exact hp, fun q hm => (hq q hm).updNe fun z => hn ?_⟩
  rw [<- z]
  exact List.mem_cons_of_mem _ (List.mem_map_of_mem hm)
 | g v as W =>
  obtain ⟨ev, ha, hw, st⟩ := h
  have hne : ∀ b ∈ as, b ≠ a := fun b hm z => hn (by rw [<- z]; exact hm)
  refine ⟨ev, fun b hm => ?_, st _ _ _ _ (Same.refl _) (fun b hm => zaj (hne b hm)) hw, st⟩
  obtain ⟨h0, fa, x, ho⟩ := ha b hm
  exact ⟨h0, fa, x, by rw [zaj (hne b hm)]; exact ho⟩
theorem OwnL.frz {p a : Addr} {o : HO} {xs : List D} (h : OwnL K H₀ F H p xs) (fa : F a = none) (hn : p ≠ a) : OwnL K H₀ (upd F a o) H p xs := by
 obtain ⟨h0, fp, vs, hp, r⟩ := h
 exact ⟨h0, by rw [zaj hn]; exact fp, vs, hp, r.mono (Same.upd fa)⟩
theorem SlOk.frz {ov : Option V} {s : Sl} {a : Addr} {o : HO} (h : SlOk K H₀ F H ov s) (fa : F a = none) (hn : a ∉ s.ads) : SlOk K H₀ (upd F a o) H ov s := by
 cases s with
 | un => trivial
 | d x => obtain ⟨v, ev, r⟩ := h; exact ⟨v, ev, r.mono (Same.upd fa)⟩
 | o p xs => exact ⟨h.1, h.2.frz fa fun z => hn (by simp [Sl.ads, z])⟩
 | oo p qs =>
  obtain ⟨ev, h0, fp, hp, hq⟩ := h
  refine ⟨ev, h0, by rw [zaj fun z => hn (by simp [Sl.ads, z])]; exact fp, hp, fun q hm => (hq q hm).frz fa fun z => hn ?_⟩
  rw [<- z]
  exact List.mem_cons_of_mem _ (List.mem_map_of_mem hm)
 | g v as W =>
  obtain ⟨ev, ha, hw, st⟩ := h
  have hne : ∀ b ∈ as, b ≠ a := fun b hm z => hn (by rw [<- z]; exact hm)
  refine ⟨ev, fun b hm => ?_, st _ _ _ _ (Same.upd fa) (fun _ _ => rfl) hw, st⟩
  obtain ⟨h0, fb, x, ho⟩ := ha b hm
  exact ⟨h0, by rw [zaj (hne b hm)]; exact fb, x, ho⟩
theorem SlOk.live {ov : Option V} {s : Sl} (h : SlOk K H₀ F H ov s) {p : Addr} (hp : p ∈ s.ads) : H p ≠ none := by
 cases s with
 | un => simp [Sl.ads] at hp
 | d x => simp [Sl.ads] at hp
 | o q xs =>
  obtain ⟨_, _, _, vs, hq, _⟩ := h
  simp [Sl.ads] at hp; subst hp; rw [hq]; simp
 | oo q qs =>
  obtain ⟨ev, h0, fp, hq, hqs⟩ := h
  rcases List.mem_cons.mp hp with rfl | hp
  ·rw [hq]; simp
  ·obtain ⟨r, hr, rfl⟩ := List.mem_map.mp hp
   obtain ⟨_, _, vs, hv, _⟩ := hqs r hr
   rw [hv]; simp
 | g v as W =>
  obtain ⟨ev, ha, hw, st⟩ := h
  obtain ⟨_, _, x, ho⟩ := ha p hp
  rw [ho]; simp
end
end L2
namespace L2
open PySem PySem.Spec PyProof.Rows
section
variable {K : PySem.W.Frag} {G H₀ L F H F' H' : Hp} {σ : St} {ss : List Sl}
theorem Sat.ext2 (S : Sat K G H₀ L F H σ ss) (e : Ext F H F' H') : Sat K G H₀ L F' H' σ ss :=
 ⟨S.ext.trans e, S.fl.trans e.gf, S.len, fun i s hs => (S.ok i s hs).ext2 e, S.nd, S.ne⟩
theorem Sat.get (S : Sat K G H₀ L F H σ ss) {i : Nat} {s : Sl} (hs : ss[i]? = some s) (hn : s ≠ .un) : ∃ v, σ[i]? = some (some v) /\ SlOk K H₀ F H (some v) s := by
 have hi : i < σ.length := by rw [S.len]; exact (List.getElem?_eq_some_iff.mp hs).1
 have := S.ok i s hs
 rw [List.getD_eq_getElem?_getD, List.getElem?_eq_getElem hi] at this
 simp only [Option.getD_some] at this
 cases hv : σ[i] with
 | none =>
  rw [hv] at this
  cases s with
  | un => exact absurd rfl hn
  | d x => obtain ⟨v, ev, _⟩ := this; cases ev
  | o p xs => obtain ⟨ev, _⟩ := this; cases ev
  | oo p qs => obtain ⟨ev, _⟩ := this; cases ev
  | g v as W => obtain ⟨ev, _⟩ := this; cases ev
 | some v =>
  rw [hv] at this
  exact ⟨v, by rw [List.getElem?_eq_getElem hi, hv], this⟩
theorem Sat.getD (S : Sat K G H₀ L F H σ ss) {i : Nat} {x : D} (hs : ss[i]? = some (.d x)) : ∃ v, σ[i]? = some (some v) /\ Rep K F x v := by
 obtain ⟨v, e, w, ew, r⟩ := S.get hs (by intro z; cases z)
 cases ew
 exact ⟨v, e, r⟩
theorem Sat.getO (S : Sat K G H₀ L F H σ ss) {i : Nat} {p : Addr} {xs : List D} (hs : ss[i]? = some (.o p xs)) : σ[i]? = some (some (.ref p)) /\ OwnL K H₀ F H p xs := by
 obtain ⟨v, e, ew, r⟩ := S.get hs (by intro z; cases z)
 cases ew
 exact ⟨e, r⟩
theorem zc1 {σ : St} {i : Nat} {v : Option V} (h : i < σ.length) : (σ.set i v).getD i none = v := by
 rw [List.getD_eq_getElem?_getD, List.getElem?_set_self h]; rfl
theorem zcz {σ : St} {i j : Nat} {v : Option V} (h : i ≠ j) : (σ.set i v).getD j none = σ.getD j none := by
 rw [List.getD_eq_getElem?_getD, List.getElem?_set_ne h, List.getD_eq_getElem?_getD]
theorem zc6 {i j : Nat} {s t : Sl} (h : (ss.set i s)[j]? = some t) : (i = j /\ t = s /\ i < ss.length) \/ (i ≠ j /\ ss[j]? = some t) := by
 by_cases hj : i = j
 ·subst hj
  have hi := (List.getElem?_eq_some_iff.mp h).1
  rw [List.length_set] at hi
  rw [List.getElem?_set_self hi] at h
  exact .inl ⟨rfl, (Option.some.inj h).symm, hi⟩
 ·rw [List.getElem?_set_ne hj] at h; exact .inr ⟨hj, h⟩
theorem Sat.put {σ' : St} (S : Sat K G H₀ L F H σ ss) {i : Nat} {s : Sl} (ex : Ext G H₀ F' H') (fl : Same L F') (hl : σ'.length = σ.length) (hσ : ∀ j, j ≠ i -> σ'.getD j none = σ.getD j none) (hi : i < ss.length -> SlOk K H₀ F' H' (σ'.getD i none) s)
  (nd : s.ads.Nodup) (dj : ∀ (j : Nat) s', j ≠ i -> ss[j]? = some s' -> ∀ p ∈ s.ads, p ∉ s'.ads) (st : ∀ (j : Nat) s', j ≠ i -> ss[j]? = some s' -> SlOk K H₀ F' H' (σ.getD j none) s') : Sat K G H₀ L F' H' σ' (ss.set i s) := by
 refine ⟨ex, fl, by rw [List.length_set, hl, S.len], fun j t ht => ?_, fun j t ht => ?_, fun j k t u hjk ht hu => ?_⟩
 ·rcases zc6 ht with ⟨rfl, rfl, hlt⟩ | ⟨hj, ht⟩
  ·exact hi hlt
  ·rw [hσ j (Ne.symm hj)]; exact st j t (Ne.symm hj) ht
 ·rcases zc6 ht with ⟨rfl, rfl, _⟩ | ⟨hj, ht⟩
  ·exact nd
  ·exact S.nd j t ht
 ·rcases zc6 ht with ⟨rfl, rfl, _⟩ | ⟨hj, ht'⟩
  ·rcases zc6 hu with ⟨rfl, rfl, _⟩ | ⟨hk, hu'⟩
   ·exact absurd rfl hjk
   ·exact dj k u (Ne.symm hk) hu'
  ·rcases zc6 hu with ⟨rfl, rfl, _⟩ | ⟨hk, hu'⟩
   ·exact fun p hp hp' => dj j t (Ne.symm hj) ht' p hp' hp
   ·exact S.ne j k t u hjk ht' hu'
theorem Sat.setD (S : Sat K G H₀ L F H σ ss) {i : Nat} {x : D} {v : V} (r : Rep K F x v) : Sat K G H₀ L F H (σ.set i (some v)) (ss.set i (.d x)) :=
 S.put S.ext S.fl (by simp) (fun j hj => zcz (Ne.symm hj)) (fun hi => by rw [zc1 (by rw [S.len]; exact hi)]; exact ⟨v, rfl, r⟩) (by simp [Sl.ads]) (fun _ _ _ _ p hp => by simp [Sl.ads] at hp) fun j s' _ h => S.ok j s' h
theorem Sat.setO (S : Sat K G H₀ L F H σ ss) {i : Nat} {xs : List D} {p : Addr} (r : OwnL K H₀ F H p xs) (hne : ∀ (j : Nat) s', j ≠ i -> ss[j]? = some s' -> p ∉ s'.ads) : Sat K G H₀ L F H (σ.set i (some (.ref p))) (ss.set i (.o p xs)) :=
 S.put S.ext S.fl (by simp) (fun j hj => zcz (Ne.symm hj)) (fun hi => by rw [zc1 (by rw [S.len]; exact hi)]; exact ⟨rfl, r⟩) (by simp [Sl.ads]) (fun j s' hj h q hq => by simp [Sl.ads] at hq; subst hq; exact hne j s' hj h) fun j s' _ h => S.ok j s' h
theorem Sat.write (S : Sat K G H₀ L F H σ ss) {i : Nat} {xs ys : List D} {p : Addr} {vs : List V} (hs : ss[i]? = some (.o p xs)) (r : Reps K F ys vs) : Sat K G H₀ L F (upd H p (.lst vs)) σ (ss.set i (.o p ys)) := by
 obtain ⟨e, h0, fp, ws, hp, _⟩ := S.getO hs
 have hget : σ.getD i none = some (.ref p) := by rw [List.getD_eq_getElem?_getD, e]; rfl
 refine S.put (S.ext.write fp h0) S.fl rfl (fun _ _ => rfl) (fun _ => by rw [hget]; exact ⟨rfl, h0, fp, vs, zah, r⟩) (by simp [Sl.ads]) (fun j s' hj h q hq => ?_) fun j s' hj h => (S.ok j s' h).updNe (S.ne i j _ s' (Ne.symm hj) hs h p (by simp [Sl.ads]))
 simp [Sl.ads] at hq; subst hq
 exact S.ne i j _ s' (Ne.symm hj) hs h q (by simp [Sl.ads])
theorem Sat.freeze (S : Sat K G H₀ L F H σ ss) {i : Nat} {p : Addr} {xs : List D} (hs : ss[i]? = some (.o p xs)) : ∃ F', Sat K G H₀ L F' H σ (ss.set i (.d (.lst xs))) := by
 obtain ⟨e, h0, fp, vs, hp, r⟩ := S.getO hs
 have hget : σ.getD i none = some (.ref p) := by rw [List.getD_eq_getElem?_getD, e]; rfl
 exact ⟨upd F p (.lst vs), S.put (S.ext.freeze fp h0 hp) (S.fl.trans (Same.upd fp)) rfl (fun _ _ => rfl) (fun _ => by rw [hget]; exact ⟨_, rfl, Rep.lst (SqL.of zah) (r.mono (Same.upd fp))⟩) (by simp [Sl.ads]) (fun _ _ _ _ q hq => by simp [Sl.ads] at hq)
  fun j s' hj h => (S.ok j s' h).frz fp (S.ne i j _ s' (Ne.symm hj) hs h p (by simp [Sl.ads]))⟩
end
section
variable (K : PySem.W.Frag) (G H₀ L : Hp) (ss : List Sl)
noncomputable def Ev (t : TE) (d : D) : Prop := ∀ F H σ Q, Sat K G H₀ L F H σ ss -> (∀ v F' H', Ext F H F' H' -> Rep K F' d v -> Q v H') -> t σ H Q
noncomputable def EvO (t : TE) (ds : List D) : Prop := ∀ F H σ Q, Sat K G H₀ L F H σ ss -> (∀ p vs F' H', Ext F H F' H' -> H p = none -> F' p = none -> H' p = some (.lst vs) -> Reps K F' ds vs -> Q (.ref p) H') -> t σ H Q
noncomputable def EvL (t : TE) (ds : List D) : Prop := ∀ F H σ Q, Sat K G H₀ L F H σ ss -> (∀ p vs F' H', Ext F H F' H' -> SqL K H' p vs -> Reps K F' ds vs -> Q (.ref p) H') -> t σ H Q
noncomputable def EvB (t : TE) (d : D) : Prop := ∀ F H σ Q, Sat K G H₀ L F H σ ss -> (∀ v F' H', Ext F H F' H' -> Rep K H' d v -> Q v H') -> t σ H Q
noncomputable def EvT (t : TT) (b : Bool) : Prop := ∀ F H σ (Q : Bool -> Hp -> Prop), Sat K G H₀ L F H σ ss -> (∀ F' H', Ext F H F' H' -> Q b H') -> t σ H Q
noncomputable def EvA (t : TA) (ds : List D) : Prop := ∀ F H σ (Q : List V -> Hp -> Prop), Sat K G H₀ L F H σ ss -> (∀ vs F' H', Ext F H F' H' -> Reps K H' ds vs -> Q vs H') -> t σ H Q
noncomputable def EvAF (t : TA) (ds : List D) : Prop := ∀ F H σ (Q : List V -> Hp -> Prop), Sat K G H₀ L F H σ ss -> (∀ vs F' H', Ext F H F' H' -> Reps K F' ds vs -> Q vs H') -> t σ H Q
end
section
variable {K : PySem.W.Frag} {G H₀ L : Hp} {ss : List Sl} {t ta tb : TE} {d d1 d2 : D} {ds es : List D}
theorem EvO.ev (h : EvO K G H₀ L ss t ds) : Ev K G H₀ L ss t (.lst ds) := fun F H σ Q S q => h F H σ Q S fun p vs F' H' e hp fp hp' r => q _ _ _ (e.freeze fp hp hp') (Rep.lst (SqL.of zah) (r.mono (Same.upd fp)))
theorem EvO.l (h : EvO K G H₀ L ss t ds) : EvL K G H₀ L ss t ds := fun F H σ Q S q => h F H σ Q S fun p vs F' H' e hp fp hp' r => q _ _ _ _ e (SqL.of hp') r
theorem Ev.l (h : Ev K G H₀ L ss t (.lst ds)) : EvL K G H₀ L ss t ds := fun F H σ Q S q => h F H σ Q S fun v F' H' e r => by
 obtain ⟨p, xs, rfl, sq, rs⟩ := r.of_lst
 exact q _ _ _ _ e (SqL.same e.fh sq) rs
theorem Ev.b (h : Ev K G H₀ L ss t d) : EvB K G H₀ L ss t d := fun F H σ Q S q => h F H σ Q S fun v F' H' e r => q _ _ _ e (r.mono e.fh)
theorem zad {i : Nat} (hs : ss[i]? = some (.d d)) : Ev K G H₀ L ss (tVar i) d := fun F H σ Q S q => by
 obtain ⟨v, e, r⟩ := S.getD hs
 exact ⟨v, e, q _ _ _ (Ext.refl S.ext.fh) r⟩
theorem zq0 {i : Nat} {p : Addr} (hs : ss[i]? = some (.o p ds)) : EvL K G H₀ L ss (tVar i) ds := fun F H σ Q S q => by
 obtain ⟨e, h0, fp, vs, hp, r⟩ := S.getO hs
 exact ⟨.ref p, e, q _ _ _ _ (Ext.refl S.ext.fh) (SqL.of hp) r⟩
theorem zaq {i : Int} : Ev K G H₀ L ss (tC (.int i)) (.int i) := fun F H σ Q S q => q _ _ _ (Ext.refl S.ext.fh) Rep.int
theorem zom {b : Bool} : Ev K G H₀ L ss (tC (.bl b)) (.bl b) := fun F H σ Q S q => q _ _ _ (Ext.refl S.ext.fh) Rep.bl
theorem zrg : Ev K G H₀ L ss (tC .non) .non := fun F H σ Q S q => q _ _ _ (Ext.refl S.ext.fh) Rep.non
theorem zaf {x : Str} {l : List Nat} (h : x = T l) (ha : ∀ c ∈ l, c < 128) : Ev K G H₀ L ss (tC (.str x)) (.str l) := fun F H σ Q S q => by subst h; exact q _ _ _ (Ext.refl S.ext.fh) (Rep.str ha)
theorem zdu {r : R2} {w : V} (a : EvB K G H₀ L ss ta d1) (b : EvB K G H₀ L ss tb d2) (hr : ∀ H x y (Q : VK), Rep K H d1 x -> Rep K H d2 y -> Q w H -> r x y H Q) (hw : ∀ F H x y, Rep K H d1 x -> Rep K H d2 y -> Rep K F d w) : Ev K G H₀ L ss (tOp r ta tb) d := fun F H σ Q S q =>
 a F H σ _ S fun x F1 H1 e1 r1 => b F1 H1 σ _ (S.ext2 e1) fun y F2 H2 e2 r2 => hr H2 x y Q (r1.mono e2.hh) r2 (q _ _ _ (e1.trans e2) (hw _ _ _ _ (r1.mono e2.hh) r2))
theorem zi2 {i j : Int} (a : EvB K G H₀ L ss ta (.int i)) (b : EvB K G H₀ L ss tb (.int j)) : Ev K G H₀ L ss (tOp (rI0 fun i j => .int (i + j)) ta tb) (.int (i + j)) :=
 zdu a b (fun H x y Q r1 r2 q => ⟨i, j, r1.of_int, r2.of_int, q⟩) fun _ _ _ _ _ _ => Rep.int
theorem zl7 {C : Int -> Int -> Prop} {g : Int -> Int -> Int} {i j : Int} (a : EvB K G H₀ L ss ta (.int i)) (b : EvB K G H₀ L ss tb (.int j)) (hC : C i j) : Ev K G H₀ L ss (tOp (rI C fun i j => .int (g i j)) ta tb) (.int (g i j)) :=
 zdu a b (fun H x y Q r1 r2 q => ⟨i, j, r1.of_int, r2.of_int, hC, q⟩) fun _ _ _ _ _ _ => Rep.int
theorem zjo {g : Int -> Int -> Bool} {i j : Int} (a : EvB K G H₀ L ss ta (.int i)) (b : EvB K G H₀ L ss tb (.int j)) : Ev K G H₀ L ss (tOp (rI0 fun i j => .bl (g i j)) ta tb) (.bl (g i j)) :=
 zdu a b (fun H x y Q r1 r2 q => ⟨i, j, r1.of_int, r2.of_int, q⟩) fun _ _ _ _ _ _ => Rep.bl
theorem zku {i j : Int} (a : EvB K G H₀ L ss ta (.int i)) (b : EvB K G H₀ L ss tb (.int j)) : Ev K G H₀ L ss (tOp rEq ta tb) (.bl (decide (i = j))) :=
 zdu (w:=.bl (decide (i = j))) a b (fun H x y Q r1 r2 q => by rw [r1.of_int, r2.of_int]; exact ⟨rfl, by simpa using q⟩) fun _ _ _ _ _ _ => Rep.bl
theorem zpc {i j : Int} (a : EvB K G H₀ L ss ta (.int i)) (b : EvB K G H₀ L ss tb (.int j)) : Ev K G H₀ L ss (tOp rNe ta tb) (.bl (!decide (i = j))) :=
 zdu (w:=.bl (!decide (i = j))) a b (fun H x y Q r1 r2 q => by rw [r1.of_int, r2.of_int]; exact ⟨rfl, by simpa using q⟩) fun _ _ _ _ _ _ => Rep.bl
theorem zer {l m : List Nat} (a : EvB K G H₀ L ss ta (.str l)) (b : EvB K G H₀ L ss tb (.str m)) : Ev K G H₀ L ss (tOp rEq ta tb) (.bl (decide (l = m))) :=
 zdu (w:=.bl (decide (l = m))) a b (fun H x y Q r1 r2 q => by rw [r1.of_str, r2.of_str]; exact ⟨rfl, by rw [zkq]; exact q⟩) fun _ _ _ _ _ _ => Rep.bl
theorem zfx {l m : List Nat} (a : EvB K G H₀ L ss ta (.str l)) (b : EvB K G H₀ L ss tb (.str m)) : Ev K G H₀ L ss (tOp rNe ta tb) (.bl (!decide (l = m))) :=
 zdu (w:=.bl (!decide (l = m))) a b (fun H x y Q r1 r2 q => by rw [r1.of_str, r2.of_str]; exact ⟨rfl, by rw [zkq]; exact q⟩) fun _ _ _ _ _ _ => Rep.bl
theorem zeh {l m : List Nat} (a : EvB K G H₀ L ss ta (.str l)) (b : EvB K G H₀ L ss tb (.str m)) (hz : l.length + m.length <= sizeLine) :
  Ev K G H₀ L ss (tOp (fun x y H Q => ∃ i j, x = .str i /\ y = .str j /\ i.length + j.length <= sizeLine /\ Q (.str (i ++ j)) H) ta tb) (.str (l ++ m)) :=
 zdu (w:=.str (T (l ++ m))) a b (fun H x y Q r1 r2 q => ⟨_, _, r1.of_str, r2.of_str, by rw [zb4, zb4]; exact hz, by rw [zpm]; exact q⟩) fun _ _ _ _ r1 r2 => Rep.str fun c hc => (List.mem_append.mp hc).elim (r1.asc c) (r2.asc c)
theorem zqu {α : Type} {xs : List α} {i : Int} {x : α} (h : atI xs i = some x) : x ∈ xs := by
 unfold atI at h
 cases hx : ixN xs.length i with
 | none => rw [hx] at h; cases h
 | some j => rw [hx] at h; exact List.mem_of_getElem? h
theorem zms {l : List Nat} {i : Int} {c : Nat} (a : EvB K G H₀ L ss ta (.str l)) (b : EvB K G H₀ L ss tb (.int i)) (hz : l.length <= sizeLine) (hc : atI l i = some c) : Ev K G H₀ L ss (tOp rIxS ta tb) (.str [c]) :=
 zdu (w:=.str (T [c])) a b (fun H x y Q r1 r2 q => ⟨_, _, c, r1.of_str, r2.of_int, by rw [zb4]; exact hz, by rw [zf7]; exact hc, q⟩) fun _ _ _ _ r1 r2 => Rep.str fun c' hc' => by
  rw [List.mem_singleton.mp hc']
  exact r1.asc c (zqu hc)
theorem Reps.atI {H : Hp} {ds : List D} {vs : List V} {i : Int} {d : D} (r : Reps K H ds vs) (h : L2.atI ds i = some d) : ∃ v, L2.atI vs i = some v /\ Rep K H d v := by
 unfold L2.atI at h ⊢
 rw [r.length] at h
 cases hx : ixN vs.length i with
 | none => rw [hx] at h; cases h
 | some j => rw [hx] at h; exact r.get' h
theorem zck {i : Int} (a : EvL K G H₀ L ss ta ds) (b : EvB K G H₀ L ss tb (.int i)) (hc : atI ds i = some d) : Ev K G H₀ L ss (tOp (rIxL K) ta tb) d := fun F H σ Q S q =>
 a F H σ _ S fun p vs F1 H1 e1 sq r1 => b F1 H1 σ _ (S.ext2 e1) fun y F2 H2 e2 r2 => by
  obtain ⟨v, hv, rv⟩ := r1.atI hc
  exact ⟨p, vs, i, v, rfl, r2.of_int, SqL.same e2.hh sq, hv, q _ _ _ (e1.trans e2) (rv.mono e2.gf)⟩
theorem zpr : EvA K G H₀ L ss tNil [] := fun F H σ Q S q => q _ _ _ (Ext.refl S.ext.fh) Reps.nil
theorem zhm {t : TA} (a : EvB K G H₀ L ss ta d) (b : EvA K G H₀ L ss t ds) : EvA K G H₀ L ss (zbf ta t) (d :: ds) := fun F H σ Q S q =>
 a F H σ _ S fun x F1 H1 e1 r1 => b F1 H1 σ _ (S.ext2 e1) fun vs F2 H2 e2 r2 => q _ _ _ (e1.trans e2) (Reps.cons (r1.mono e2.hh) r2)
theorem zae : EvAF K G H₀ L ss tNil [] := fun F H σ Q S q => q _ _ _ (Ext.refl S.ext.fh) Reps.nil
theorem zaa {t : TA} (a : Ev K G H₀ L ss ta d) (b : EvAF K G H₀ L ss t ds) : EvAF K G H₀ L ss (zbf ta t) (d :: ds) := fun F H σ Q S q =>
 a F H σ _ S fun x F1 H1 e1 r1 => b F1 H1 σ _ (S.ext2 e1) fun vs F2 H2 e2 r2 => q _ _ _ (e1.trans e2) (Reps.cons (r1.mono e2.gf) r2)
theorem zo6 {t : TA} (a : EvAF K G H₀ L ss t ds) (hz : ds.length <= sizeLine) : Ev K G H₀ L ss (tTup t) (.tup ds) := fun F H σ Q S q =>
 a F H σ _ S fun vs F1 H1 e1 r1 => ⟨by rw [<- r1.length]; exact hz, fun p hp => q _ _ _ (e1.newF hp) (Rep.tup (SqT.of zah) (r1.mono (Same.upd (e1.fh.free hp))))⟩
theorem zbi {t : TA} (a : EvAF K G H₀ L ss t ds) (hz : ds.length <= sizeLine) : EvO K G H₀ L ss (tLst t) ds := fun F H σ Q S q =>
 a F H σ _ S fun vs F1 H1 e1 r1 => ⟨by rw [<- r1.length]; exact hz, fun p hp => q p vs F1 _ (e1.newO hp) (e1.hh.free hp) (e1.fh.free hp) zah r1⟩
theorem zax {b : Bool} (a : Ev K G H₀ L ss t (.bl b)) : EvT K G H₀ L ss (zlk t) b := fun F H σ Q S q => a F H σ _ S fun v F' H' e r => ⟨b, r.of_bl, q _ _ e⟩
theorem zgc {b : Bool} (a : Ev K G H₀ L ss t (.bl b)) : EvT K G H₀ L ss (tB t) b := fun F H σ Q S q => a F H σ _ S fun v F' H' e r => ⟨b, r.of_bl, q _ _ e⟩
theorem zel {u : TT} {b : Bool} (a : EvT K G H₀ L ss u b) : EvT K G H₀ L ss (tNot u) (!b) := fun F H σ Q S q => a F H σ _ S fun F' H' e => q _ _ e
theorem zep {u v : TT} {b c : Bool} (a : EvT K G H₀ L ss u b) (h : b = true -> EvT K G H₀ L ss v c) : EvT K G H₀ L ss (tAnd u v) (b && c) := fun F H σ Q S q => a F H σ _ S fun F' H' e => by
 cases b with
 | false => exact iteF (q _ _ e)
 | true => exact iteT (h rfl _ _ _ _ (S.ext2 e) fun F'' H'' e' => q _ _ (e.trans e'))
theorem zee {u v : TT} {b c : Bool} (a : EvT K G H₀ L ss u b) (h : b = false -> EvT K G H₀ L ss v c) : EvT K G H₀ L ss (tOr u v) (b || c) := fun F H σ Q S q => a F H σ _ S fun F' H' e => by
 cases b with
 | true => exact iteT (q _ _ e)
 | false => exact iteF (h rfl _ _ _ _ (S.ext2 e) fun F'' H'' e' => q _ _ (e.trans e'))
theorem zl2 {b c : Bool} (a : Ev K G H₀ L ss ta (.bl b)) (h : b = true -> Ev K G H₀ L ss tb (.bl c)) : Ev K G H₀ L ss (zq6 ta tb) (.bl (b && c)) := fun F H σ Q S q => a F H σ _ S fun v F' H' e r => by
 refine ⟨b, r.of_bl, ?_⟩
 cases b with
 | false => exact iteF (q _ _ _ e Rep.bl)
 | true => exact iteT (h rfl _ _ _ _ (S.ext2 e) fun v F'' H'' e' r' => q _ _ _ (e.trans e') r')
theorem zs0 {b c : Bool} (a : Ev K G H₀ L ss ta (.bl b)) (h : b = false -> Ev K G H₀ L ss tb (.bl c)) : Ev K G H₀ L ss (tOrV ta tb) (.bl (b || c)) := fun F H σ Q S q => a F H σ _ S fun v F' H' e r => by
 refine ⟨b, r.of_bl, ?_⟩
 cases b with
 | true => exact iteT (q _ _ _ e Rep.bl)
 | false => exact iteF (h rfl _ _ _ _ (S.ext2 e) fun v F'' H'' e' r' => q _ _ _ (e.trans e') r')
theorem zrm {b : Bool} (a : Ev K G H₀ L ss ta (.bl b)) : Ev K G H₀ L ss (zrt ta) (.bl (!b)) := fun F H σ Q S q => a F H σ _ S fun v F' H' e r => ⟨b, r.of_bl, q _ _ _ e Rep.bl⟩
end
end L2
namespace L2
open PySem PySem.Spec PyProof.Rows
noncomputable def SpD (K : PySem.W.Frag) (pre : List D -> Prop) (res : List D -> D) : Sp := fun vs H Q _ => ∃ G ds, Same G H /\ Reps K G ds vs /\ pre ds /\ ∀ v G' H', Ext G H G' H' -> Rep K G' (res ds) v -> Q v H'
noncomputable def SpO (K : PySem.W.Frag) (pre : List D -> Prop) (res : List D -> List D) : Sp := fun vs H Q _ => ∃ G ds, Same G H /\ Reps K G ds vs /\ pre ds /\ ∀ p ws G' H', Ext G H G' H' -> H p = none -> G' p = none -> H' p = some (.lst ws) -> Reps K G' (res ds) ws -> Q (.ref p) H'
noncomputable def D.flat : D -> Bool
 | .lst _ => false | .tup _ => false | .dct _ _ => false | .dctT _ _ => false | .ins _ _ _ => false | _ => true
section
variable {K : PySem.W.Frag} {G H₀ L : Hp} {ss : List Sl} {t : TA} {ds : List D} {pre : List D -> Prop} {E : XK}
theorem zdz {res : List D -> D} (a : EvAF K G H₀ L ss t ds) (hp : pre ds) : Ev K G H₀ L ss (zex (SpD K pre res) [] E t) (res ds) := fun F H σ Q S q =>
 a F H σ _ S fun vs F1 H1 e1 r1 => ⟨F1, ds, e1.fh, by rw [List.append_nil]; exact r1, hp, fun v G' H' e2 r => q _ _ _ (e1.trans e2) r⟩
theorem zoh {res : List D -> List D} (a : EvAF K G H₀ L ss t ds) (hp : pre ds) : EvO K G H₀ L ss (zex (SpO K pre res) [] E t) (res ds) := fun F H σ Q S q =>
 a F H σ _ S fun vs F1 H1 e1 r1 => ⟨F1, ds, e1.fh, by rw [List.append_nil]; exact r1, hp, fun p ws G' H' e2 h1 h2 h3 r => q _ _ _ _ (e1.trans e2) (e1.hh.free h1) h2 h3 r⟩
end
section
variable (K : PySem.W.Frag) (G H₀ L : Hp)
noncomputable def Nx (P : St -> Hp -> Prop) (ss : List Sl) : Prop := ∀ F H σ, Sat K G H₀ L F H σ ss -> P σ H
noncomputable def Go (E : Ends) (ss : List Sl) (t : TS) : Prop := ∀ F H σ, Sat K G H₀ L F H σ ss -> t E σ H
noncomputable def Tg (g : TG) (d : D) (ss ss' : List Sl) : Prop := ∀ F H σ v (Q : St -> Hp -> Prop), Sat K G H₀ L F H σ ss -> Rep K F d v -> (∀ σ' , Sat K G H₀ L F H σ' ss' -> Q σ' H) -> g v σ H Q
noncomputable def Tgs (g : TGs) (ds : List D) (ss ss' : List Sl) : Prop := ∀ F H σ vs (Q : St -> Hp -> Prop), Sat K G H₀ L F H σ ss -> Reps K F ds vs -> (∀ σ' , Sat K G H₀ L F H σ' ss' -> Q σ' H) -> g vs σ H Q
noncomputable def At (I : List Sl -> Prop) : St -> Hp -> Prop := fun σ H => ∃ ss F, Sat K G H₀ L F H σ ss /\ I ss
end
noncomputable def RtD (K : PySem.W.Frag) (G H₀ : Hp) (rt : VK) (d : D) : Prop := ∀ v F H, Ext G H₀ F H -> Rep K F d v -> rt v H
noncomputable def RtO (K : PySem.W.Frag) (G H₀ : Hp) (rt : VK) (ds : List D) : Prop := ∀ p vs F H, Ext G H₀ F H -> H₀ p = none -> F p = none -> H p = some (.lst vs) -> Reps K F ds vs -> rt (.ref p) H
section
variable {K : PySem.W.Frag} {G H₀ L : Hp} {ss ss' : List Sl} {E : Ends} {t u : TS} {te : TE} {d : D} {ds : List D} {P : St -> Hp -> Prop}
theorem zat (h : Go K G H₀ L { E with nx := u E } ss t) : Go K G H₀ L E ss (tSeq t u) := h
theorem zdq {i : Nat} (a : Ev K G H₀ L ss te d) (h : Nx K G H₀ L E.nx (ss.set i (.d d))) : Go K G H₀ L E ss (tAsg te (zgh i)) := fun F H σ S => a F H σ _ S fun v F' H' e r => h F' H' _ ((S.ext2 e).setD r)
theorem Sat.notin {F H : Hp} {σ : St} {p : Addr} (S : Sat K G H₀ L F H σ ss) (hp : H p = none) (j : Nat) (s : Sl) (h : ss[j]? = some s) : p ∉ s.ads := fun z => (S.ok j s h).live z hp
theorem Sat.newO {F H F' H' : Hp} {σ : St} {p : Addr} {vs : List V} {i : Nat} (S : Sat K G H₀ L F H σ ss) (e : Ext F H F' H') (hp : H p = none) (fp : F' p = none) (hp' : H' p = some (.lst vs)) (r : Reps K F' ds vs) : Sat K G H₀ L F' H' (σ.set i (some (.ref p))) (ss.set i (.o p ds)) :=
 (S.ext2 e).setO ⟨S.ext.hh.free hp, fp, vs, hp', r⟩ fun j s _ h => S.notin hp j s h
theorem zej {i : Nat} (a : EvO K G H₀ L ss te ds) (h : ∀ p, Nx K G H₀ L E.nx (ss.set i (.o p ds))) : Go K G H₀ L E ss (tAsg te (zgh i)) := fun F H σ S => a F H σ _ S fun p vs F' H' e hp fp hp' r => h p F' H' _ (S.newO e hp fp hp' r)
theorem zb3 {c : TT} {b : Bool} (a : EvT K G H₀ L ss c b) (h1 : b = true -> Go K G H₀ L E ss t) (h2 : b = false -> Go K G H₀ L E ss u) : Go K G H₀ L E ss (tIfS c t u) := fun F H σ S => a F H σ _ S fun F' H' e => by
 cases b with
 | true => exact iteT (h1 rfl F' H' σ (S.ext2 e))
 | false => exact iteF (h2 rfl F' H' σ (S.ext2 e))
theorem zaz (h : Nx K G H₀ L E.nx ss) : Go K G H₀ L E ss zp5 := h
theorem zbq (a : Ev K G H₀ L ss te d) (h : RtD K G H₀ E.rt d) : Go K G H₀ L E ss (tRet te) := fun F H σ S => a F H σ _ S fun v F' H' e r => h v F' H' (S.ext.trans e) r
theorem zm9 (a : EvO K G H₀ L ss te ds) (h : RtO K G H₀ E.rt ds) : Go K G H₀ L E ss (tRet te) := fun F H σ S => a F H σ _ S fun p vs F' H' e hp fp hp' r => h p vs F' H' (S.ext.trans e) (S.ext.hh.free hp) fp hp' r
theorem zcd {i : Nat} {p : Addr} (hs : ss[i]? = some (.o p ds)) (h : Nx K G H₀ L P (ss.set i (.d (.lst ds)))) : Nx K G H₀ L P ss := fun F H σ S => by
 obtain ⟨F', S'⟩ := S.freeze hs
 exact h F' H σ S'
theorem zbj (h : Go K G H₀ L E ss t) : Nx K G H₀ L (t E) ss := h
theorem zss {I : List Sl -> Prop} (h : I ss) : Nx K G H₀ L (At K G H₀ L I) ss := fun F H σ S => ⟨ss, F, S, h⟩
theorem zj7 (I : List Sl -> Prop) (h1 : ∀ N : St -> Hp -> Prop, (∀ ss, I ss -> Nx K G H₀ L N ss) -> Go K G H₀ L { E with nx := N } ss t) (h2 : ∀ ss, I ss -> Go K G H₀ L E ss u) : Go K G H₀ L E ss (tSeq t u) := h1 _ h2
theorem zce {i : Nat} : Tg K G H₀ L (zgh i) d ss (ss.set i (.d d)) := fun F H σ v Q S r q => q _ (S.setD r)
theorem zho : Tgs K G H₀ L gNil [] ss ss := fun F H σ vs Q S r q => by
 rw [Reps] at r
 exact ⟨r, q _ S⟩
theorem zci {g : TG} {gs : TGs} {ss1 ss2 : List Sl} (a : Tg K G H₀ L g d ss ss1) (b : Tgs K G H₀ L gs ds ss1 ss2) : Tgs K G H₀ L (zqr g gs) (d :: ds) ss ss2 := fun F H σ vs Q S r q => by
 rw [Reps] at r
 obtain ⟨x, xs, rfl, r1, r2⟩ := r
 exact ⟨x, xs, rfl, a F H σ x _ S r1 fun σ' S' => b F H σ' xs _ S' r2 q⟩
theorem zkf {g : TGs} {n : Nat} (hn : ds.length = n) (a : Tgs K G H₀ L g ds ss ss') : Tg K G H₀ L (gTup K n g) (.tup ds) ss ss' := fun F H σ v Q S r q => by
 obtain ⟨p, xs, rfl, sq, rs⟩ := r.of_tup
 exact ⟨p, xs, rfl, SqT.same S.ext.fh sq, by rw [<- rs.length]; exact hn, a F H σ xs _ S rs q⟩
theorem zjk {i : Nat} {p : Addr} {t1 : TE} (hs : ss[i]? = some (.o p ds)) (a : Ev K G H₀ L ss t1 d) (hz : ds.length < sizeLine) (h : Nx K G H₀ L E.nx (ss.set i (.o p (ds ++ [d])))) :
  Go K G H₀ L E ss (zqs (tBM K "list" zme (tVar i) (zbf t1 tNil))) := fun F H σ S => by
 obtain ⟨e, h0, fp, vs, hp, r⟩ := S.getO hs
 refine ⟨.ref p, e, .inl ⟨rfl, _, SqL.of hp⟩, a F H σ _ S fun v F' H' e' r' => ?_⟩
 have S' := S.ext2 e'
 obtain ⟨e2, h02, fp2, vs', hp2, r2⟩ := S'.getO hs
 exact ⟨p, vs', v, rfl, rfl, hp2, by rw [<- r2.length]; exact hz, h F' _ σ (S'.write hs (r2.snoc r'))⟩
theorem Rep.itl {F H : Hp} {p : Addr} (h : Same F H) (r : Rep K F (.lst ds) (.ref p)) : ∃ vs, SqL K H p vs /\ Reps K F ds vs := by
 obtain ⟨q, xs, e, sq, rs⟩ := r.of_lst
 cases e
 exact ⟨xs, SqL.same h sq, rs⟩
end
end L2
namespace L2
open PySem PySem.Spec PyProof.Rows
mutual
noncomputable def D.toP : D -> PyData
 | .non => .none
 | .bl b => .bool b
 | .int i => .int i
 | .str l => .str (T l)
 | .lst a => .list (D.toPs a)
 | .tup a => .tuple (D.toPs a)
 | .dct _ _ => .none
 | .dctT _ _ => .none
 | .ins _ _ _ => .none
noncomputable def D.toPs : List D -> List PyData
 | [] => []
 | a :: x => a.toP :: D.toPs x
end
mutual
theorem D.toP_depth : ∀ d : D, d.toP.depth = d.dep
 | .non => rfl
 | .bl _ => rfl
 | .int _ => rfl
 | .str _ => rfl
 | .lst a => by simp [D.toP, PyData.depth, D.dep, D.toPs_depth a]
 | .tup a => by simp [D.toP, PyData.depth, D.dep, D.toPs_depth a]
 | .dct _ _ => rfl
 | .dctT _ _ => rfl
 | .ins _ _ _ => rfl
theorem D.toPs_depth : ∀ a : List D, PyData.depthAll (D.toPs a) = D.deps a
 | [] => rfl
 | d :: a => by simp [D.toPs, PyData.depthAll, D.deps, D.toP_depth d, D.toPs_depth a]
end
mutual
theorem D.eqv : ∀ d e : D, d.nb = true -> e.nb = true -> PyData.eqv d.toP e.toP = decide (d = e)
 | .non, e, _, h2 => by cases e <;> simp [D.toP, PyData.eqv, D.nb] at h2 ⊢
 | .bl _, _, h1, _ => by simp [D.nb] at h1
 | .dct _ _, _, h1, _ => by simp [D.nb] at h1
 | .dctT _ _, _, h1, _ => by simp [D.nb] at h1
 | .ins _ _ _, _, h1, _ => by simp [D.nb] at h1
 | .int i, e, _, h2 => by
  cases e <;> simp [D.toP, PyData.eqv, D.nb] at h2 ⊢
  exact Bool.beq_eq_decide_eq _ _
 | .str l, e, _, h2 => by
  cases e <;> simp [D.toP, PyData.eqv, D.nb] at h2 ⊢
  rename_i m
  rw [Bool.eq_iff_iff]; simp [zq5]
 | .lst a, e, h1, h2 => by
  cases e with
  | lst b =>
   simp only [D.nb] at h1 h2
   simp only [D.toP, PyData.eqv, D.lst.injEq]
   exact D.eqvs a b h1 h2
  | _ => simp [D.toP, PyData.eqv, D.nb] at h2 ⊢
 | .tup a, e, h1, h2 => by
  cases e with
  | tup b =>
   simp only [D.nb] at h1 h2
   simp only [D.toP, PyData.eqv, D.tup.injEq]
   exact D.eqvs a b h1 h2
  | _ => simp [D.toP, PyData.eqv, D.nb] at h2 ⊢
theorem D.eqvs : ∀ a b : List D, D.nbs a = true -> D.nbs b = true -> PyData.eqvAll (D.toPs a) (D.toPs b) = decide (a = b)
 | [], b, _, _ => by cases b <;> simp [D.toPs, PyData.eqvAll]
 | d :: a, b, h1, h2 => by
  cases b with
  | nil => simp [D.toPs, PyData.eqvAll]
  | cons e b =>
   simp only [D.nbs, Bool.and_eq_true] at h1 h2
   simp only [D.toPs, PyData.eqvAll, D.eqv d e h1.1 h2.1, D.eqvs a b h1.2 h2.2, List.cons.injEq]
   by_cases x : d = e <;> by_cases y : a = b <;> simp [x, y]
end
section
variable {X : Cx} {pins : List (Addr × Obj)} {σ : St} {H : Hp} {s : Shared}
theorem zql {l : List Nat} (h : ∀ c ∈ l, c < 128) : PyData.strOk (T l) = true := by
 unfold PyData.strOk T
 simp
 intro c hc
 have := h c hc
 lia
mutual
theorem Inv.reads (I : Inv X pins σ H s) : ∀ {d : D} {v : V} {u : Value}, d.nb = true -> Rep X.K H d v -> RelV v u -> (∃ as, Reads s.heap u d.toP as) /\ d.toP.canLay0 = true
 | .non, _, _, _, r, q => by rw [r.of_non] at q; cases q; exact ⟨⟨_, Reads.none⟩, rfl⟩
 | .bl b, _, _, n, _, _ => by simp [D.nb] at n
 | .dct _ _, _, _, n, _, _ => by simp [D.nb] at n
 | .dctT _ _, _, _, n, _, _ => by simp [D.nb] at n
 | .ins _ _ _, _, _, n, _, _ => by simp [D.nb] at n
 | .int i, _, _, _, r, q => by rw [r.of_int] at q; obtain ⟨t, rfl⟩ := q; exact ⟨⟨_, Reads.int i t⟩, rfl⟩
 | .str l, _, _, _, r, q => by
  have ha := r.asc
  rw [r.of_str] at q; obtain ⟨t, rfl⟩ := q
  exact ⟨⟨_, Reads.str _ t⟩, zql ha⟩
 | .lst ds, _, _, nn, r, q => by
  obtain ⟨p, xs, rfl, sq, rs⟩ := r.of_lst
  cases q
  obtain ⟨its, rv, ⟨o, n, e, c, _, hd⟩, _⟩ := I.list sq
  obtain ⟨⟨as, ra⟩, hc⟩ := I.readsAll (by simpa [D.nb] using nn) rs rv
  exact ⟨⟨_, Reads.list e c hd (by simpa using ra)⟩, by simpa [D.toP, PyData.canLay0] using hc⟩
 | .tup ds, _, _, nn, r, q => by
  obtain ⟨p, xs, rfl, sq, rs⟩ := r.of_tup
  cases q
  obtain ⟨its, rv, ⟨o, e, c, n, hd⟩, _⟩ := I.tuple sq
  obtain ⟨⟨as, ra⟩, hc⟩ := I.readsAll (by simpa [D.nb] using nn) rs rv
  exact ⟨⟨_, Reads.tuple e c hd (by simpa using ra)⟩, by simpa [D.toP, PyData.canLay0] using hc⟩
theorem Inv.readsAll (I : Inv X pins σ H s) : ∀ {ds : List D} {vs : List V} {us : List Value}, D.nbs ds = true -> Reps X.K H ds vs -> Vals vs us -> (∃ as, ReadsAll s.heap us (D.toPs ds) as) /\ PyData.canLayAll0 (D.toPs ds) = true
 | [], _, _, _, r, q => by
  rw [Reps] at r; subst r
  cases q
  exact ⟨⟨_, ReadsAll.nil⟩, rfl⟩
 | d :: ds, _, _, n, r, q => by
  simp only [D.nbs, Bool.and_eq_true] at n
  rw [Reps] at r
  obtain ⟨x, xs, rfl, r1, r2⟩ := r
  cases q with
  | cons q1 q2 =>
   obtain ⟨⟨as, a⟩, hc⟩ := I.reads n.1 r1 q1
   obtain ⟨⟨bs, b⟩, hc2⟩ := I.readsAll n.2 r2 q2
   exact ⟨⟨_, ReadsAll.cons a b⟩, by simp [D.toPs, PyData.canLayAll0, hc, hc2]⟩
end
end
section
variable {X : Cx}
theorem zk9 (d : D) (hd : d.nb = true) : ∀ ds : List D, D.nbs ds = true -> ((D.toPs ds).any fun y => PyData.eqv y d.toP) = decide (d ∈ ds)
 | [], _ => by simp [D.toPs]
 | e :: ds, h => by
  simp only [D.nbs, Bool.and_eq_true] at h
  rw [D.toPs, List.any_cons, zk9 d hd ds h.2, D.eqv e d h.1 hd]
  by_cases x : e = d
  ·subst x; simp
  ·have : ¬ d = e := fun z => x z.symm
   simp [x, this]
noncomputable def rInD (K : PySem.W.Frag) (neg : Bool) : R2 := fun x y H Q => ∃ d ds, Rep K H d x /\ (Rep K H (.lst ds) y \/ Rep K H (.tup ds) y) /\ d.nb = true /\ D.nbs ds = true /\ d.dep <= 60 /\ Q (.bl (if neg then !decide (d ∈ ds) else decide (d ∈ ds))) H
theorem zjh (hu : X.A.units + 64 < cLine) : OpR X (compareOp .NotIn) (rInD X.K true) := by
 intro pins s σ H x y v u Q I rx ry h
 obtain ⟨d, ds, r1, r2, n1, n2, hd, q⟩ := h
 obtain ⟨⟨as, a⟩, c1⟩ := I.reads n1 r1 rx
 have h1 := D.toP_depth d
 have fin : EP X pins σ Q (.bool (!(D.toPs ds).any fun y => PyData.eqv y d.toP)) s := by rw [zk9 d n1 ds n2]; exact ⟨.bl _, H, I, rfl, q⟩
 rcases r2 with r2 | r2
 ·obtain ⟨⟨bs, b⟩, c2⟩ := I.reads (by simpa [D.nb] using n2) r2 ry
  rw [D.toP] at b c2
  exact SeqAt.notIn_list_reads b a (by simpa [PyData.canLay0] using c2) c1 (by lia) fin
 ·obtain ⟨⟨bs, b⟩, c2⟩ := I.reads (by simpa [D.nb] using n2) r2 ry
  rw [D.toP] at b c2
  exact SeqAt.notIn_tuple_reads b a (by simpa [PyData.canLay0] using c2) c1 (by lia) fin
end
section
variable {K : PySem.W.Frag} {G H₀ L : Hp} {ss : List Sl} {t ta tb : TE} {d d1 d2 : D} {ds es : List D}
theorem zic (a : EvB K G H₀ L ss ta d) (b : EvB K G H₀ L ss tb (.tup ds)) (n1 : d.nb = true) (n2 : D.nbs ds = true) (hd : d.dep <= 60) : Ev K G H₀ L ss (tOp (rInD K true) ta tb) (.bl (!decide (d ∈ ds))) :=
 zdu (w:=.bl (!decide (d ∈ ds))) a b (fun H x y Q r1 r2 q => ⟨d, ds, r1, .inr r2, n1, n2, hd, q⟩) fun _ _ _ _ _ _ => Rep.bl
end
theorem D.nbs_map {α : Type} {enc : α -> D} (h : ∀ x, (enc x).nb = true) : ∀ xs : List α, D.nbs (xs.map enc) = true
 | [] => rfl
 | x :: xs => by simp [D.nbs, h x, D.nbs_map h xs]
end L2
namespace L2
open PySem PySem.Spec PyProof.Rows
noncomputable def ItOk (K : PySem.W.Frag) (J : It) (F' H' : Hp) (n : Nat) (y : Nat -> D) : Prop := ∀ F2 H2, Same F' F2 -> Same H' H2 -> Same F2 H2 ->
 (∀ i, i < n -> J.go i H2 /\ ∀ x H3, J.yld i H2 x H3 -> ∃ F3, Ext F2 H2 F3 H3 /\ Rep K F3 (y i) x) /\ J.stop n H2
noncomputable def EvI (K : PySem.W.Frag) (G H₀ L : Hp) (ss : List Sl) (wi : TI) (n : Nat) (y : Nat -> D) : Prop := ∀ F H σ R, Sat K G H₀ L F H σ ss -> (∀ F' H' J, Ext F H F' H' -> ItOk K J F' H' n y -> R J H') -> wi σ H R
section
variable {K : PySem.W.Frag} {G H₀ L : Hp} {ss : List Sl}
theorem zhe {tl : TE} {ds : List D} (a : EvL K G H₀ L ss tl ds) : EvI K G H₀ L ss (zm3 K tl) ds.length fun i => ds.getD i .non := fun F H σ R S q =>
 a F H σ _ S fun p vs F' H' e sq r => ⟨p, rfl, ⟨vs, sq⟩, q F' H' _ e fun F2 H2 f1 h1 fh => by
  have sq2 := SqL.same h1 sq
  have hl := r.length
  refine ⟨fun i hi => ⟨⟨vs, vs[i]'(by lia), sq2, List.getElem?_eq_getElem _⟩, fun x H3 y => ?_⟩, ⟨vs, sq2, by lia⟩⟩
  obtain ⟨rfl, y⟩ := y
  obtain ⟨d, hd, rd⟩ := r.get (y vs sq2)
  refine ⟨F2, Ext.refl fh, ?_⟩
  show Rep K F2 (ds.getD i D.non) x
  rw [List.getD_eq_getElem?_getD, hd]
  exact rd.mono f1⟩
theorem zps {tl : TE} {l : List Nat} (a : EvB K G H₀ L ss tl (.str l)) : EvI K G H₀ L ss (iStr tl) l.length fun i => .str [l.getD i 0] := fun F H σ R S q =>
 a F H σ _ S fun v F' H' e r => by
  have ha := r.asc
  rw [r.of_str]
  refine ⟨T l, rfl, q F' H' _ e fun F2 H2 f1 h1 fh => ?_⟩
  have ez : (T l).cps.toList = l := zf7 l
  refine ⟨fun i hi => ⟨by show i < _; rw [ez]; exact hi, fun x H3 y => ?_⟩, by show _ <= _; rw [ez]; exact Nat.le_refl _⟩
  obtain ⟨rfl, c, hc, rfl⟩ := y
  rw [ez] at hc
  refine ⟨F2, Ext.refl fh, ?_⟩
  have : l.getD i 0 = c := by rw [List.getD_eq_getElem?_getD, hc]; rfl
  show Rep K F2 (D.str [l.getD i 0]) _
  rw [this]
  exact Rep.str fun c' h' => by rw [List.mem_singleton.mp h']; exact ha c (List.mem_of_getElem? hc)
noncomputable def lcSl (nt : Nat) (cs : List Nat) (ss : List Sl) : List Sl := List.replicate nt .un ++ cs.map fun i => ss.getD i .un
theorem Sat.lc {F H : Hp} {σ : St} {nt : Nat} {cs : List Nat} (S : Sat K G H₀ L F H σ ss) (hc : cs.Nodup) : Sat K G H₀ L F H (lcS nt cs σ) (lcSl nt cs ss) := by
 have cut : ∀ (i : Nat) s, (lcSl nt cs ss)[i]? = some s -> s = .un \/ ∃ j, nt <= i /\ cs[i - nt]? = some j /\ ss[j]? = some s := by
  intro i s h
  unfold lcSl at h
  by_cases hi : i < nt
  ·rw [List.getElem?_append_left (by simpa using hi), List.getElem?_replicate, if_pos hi] at h
   exact .inl (Option.some.inj h).symm
  ·rw [List.getElem?_append_right (by simpa using hi), List.length_replicate, List.getElem?_map] at h
   cases hj : cs[i - nt]? with
   | none => rw [hj] at h; cases h
   | some j =>
    rw [hj] at h
    have h : ss.getD j .un = s := Option.some.inj h
    rw [List.getD_eq_getElem?_getD] at h
    cases hs : ss[j]? with
    | none => rw [hs] at h; exact .inl h.symm
    | some s' => rw [hs] at h; exact .inr ⟨j, by lia, rfl, by rw [hs]; exact congrArg some h⟩
 have val : ∀ (i j : Nat), nt <= i -> cs[i - nt]? = some j -> (lcS nt cs σ).getD i none = σ.getD j none := by
  intro i j hi hj
  unfold lcS
  rw [List.getD_eq_getElem?_getD, List.getElem?_append_right (by simpa using hi), List.length_replicate, List.getElem?_map, hj]
  simp [List.getD_eq_getElem?_getD]
 refine ⟨S.ext, S.fl, by unfold lcS lcSl; simp, fun i s h => ?_, fun i s h => ?_, fun i j s s' hij h h' p hp => ?_⟩
 ·rcases cut i s h with rfl | ⟨j, hi, hj, hs⟩
  ·trivial
  ·rw [val i j hi hj]; exact S.ok j s hs
 ·rcases cut i s h with rfl | ⟨j, hi, hj, hs⟩
  ·simp [Sl.ads]
  ·exact S.nd j s hs
 ·rcases cut i s h with rfl | ⟨k, hi, hk, hs⟩
  ·simp [Sl.ads] at hp
  ·rcases cut j s' h' with rfl | ⟨m, hj, hm, hs'⟩
   ·simp [Sl.ads]
   ·have : k ≠ m := fun z => by
     subst z
     obtain ⟨l1, e1⟩ := List.getElem?_eq_some_iff.mp hk
     obtain ⟨l2, e2⟩ := List.getElem?_eq_some_iff.mp hm
     have := (List.getElem_inj hc).mp (e1.trans e2.symm)
     lia
    exact S.ne k m s s' this hs hs' p hp
noncomputable def GK (nt : Nat) (g : TG) : Prop := ∀ v σ H (Q Q' : St -> Hp -> Prop), (∀ σ' H', Q σ' H' -> σ'.length = σ.length -> σ'.drop nt = σ.drop nt -> Q' σ' H') -> g v σ H Q -> g v σ H Q'
noncomputable def GKs (nt : Nat) (g : TGs) : Prop := ∀ v σ H (Q Q' : St -> Hp -> Prop), (∀ σ' H', Q σ' H' -> σ'.length = σ.length -> σ'.drop nt = σ.drop nt -> Q' σ' H') -> g v σ H Q -> g v σ H Q'
theorem zdh {nt i : Nat} (h : i < nt) : GK nt (zgh i) := fun v σ H Q Q' f q => f _ _ q (by simp) (by rw [List.drop_set_of_lt h])
theorem zjp {nt : Nat} : GKs nt gNil := fun v σ H Q Q' f q => ⟨q.1, f _ _ q.2 rfl rfl⟩
theorem zdl {nt : Nat} {g : TG} {gs : TGs} (a : GK nt g) (b : GKs nt gs) : GKs nt (zqr g gs) := fun vs σ H Q Q' f q => by
 obtain ⟨v, r, e, q⟩ := q
 exact ⟨v, r, e, a v σ H _ _ (fun σ' H' q1 l1 d1 => b r σ' H' Q Q' (fun σ'' H'' q2 l2 d2 => f _ _ q2 (l2.trans l1) (d2.trans d1)) q1) q⟩
theorem znm {nt n : Nat} {gs : TGs} (b : GKs nt gs) : GK nt (gTup K n gs) := fun v σ H Q Q' f q => by
 obtain ⟨a, xs, e, sq, hn, q⟩ := q
 exact ⟨a, xs, e, sq, hn, b xs σ H Q Q' f q⟩
theorem zg9 {wi : TI} {g : TG} {tt : TT} {te : TE} {nt : Nat} {cs : List Nat} {n : Nat} {y : Nat -> D} (p : Nat -> Bool) (f : Nat -> D) (a : EvI K G H₀ L ss wi n y) (hk : GK nt g) (hc : cs.Nodup) (hz : n < sizeLine)
  (hs : ∀ i, i < n -> ∃ ss', Tg K G H₀ L g (y i) (lcSl nt cs ss) ss' /\ EvT K G H₀ L ss' tt (p i) /\ (p i = true -> Ev K G H₀ L ss' te (f i))) :
  EvO K G H₀ L ss (tLC nt cs wi g tt te) (((List.range n).filter p).map f) := fun F H σ Q S q =>
 a F H σ _ S fun F1 H1 J e1 it => by
  intro l hl
  have S1 := S.ext2 e1
  refine ⟨fun i m H2 => m = n - i /\ i <= n /\ ∃ F2 vs, Ext F1 H1 F2 H2 /\ F2 l = none /\ H2 l = some (.lst vs) /\ Reps K F2 (((List.range i).filter p).map f) vs /\ vs.length <= i,
   ⟨n, by lia, Nat.zero_le _, F1, [], (Ext.refl e1.fh).newO hl, e1.fh.free hl, zah, Reps.nil, Nat.le_refl _⟩, ?_⟩
  rintro i m H2 ⟨rfl, hi, F2, vs, e2, fl, hl2, rs, hvs⟩
  obtain ⟨it1, it2⟩ := it F2 H2 e2.gf e2.hh e2.fh
  by_cases hlt : i < n
  ·obtain ⟨go, yl⟩ := it1 i hlt
   refine .inr ⟨go, fun H' => ∃ F2 vs, Ext F1 H1 F2 H' /\ F2 l = none /\ H' l = some (.lst vs) /\ Reps K F2 (((List.range (i + 1)).filter p).map f) vs /\ vs.length <= i + 1, fun H' h => ⟨n - (i + 1), by omega, rfl, hlt, h⟩, fun x H3 yx => ?_⟩
   obtain ⟨F3, e3, rx⟩ := yl x H3 yx
   obtain ⟨ss', tg, evt, ev⟩ := hs i hlt
   have S3 := ((S1.ext2 e2).ext2 e3).lc (nt:=nt) hc
   have hl3 : H3 l = some (.lst vs) := e3.hh l _ hl2
   have fl3 : F3 l = none := (e3.no l _ hl2).trans fl
   have base := tg F3 H3 (lcS nt cs σ) x (fun σ2 H4 => H4 = H3 /\ Sat K G H₀ L F3 H3 σ2 ss') S3 rx fun σ' S' => ⟨rfl, S'⟩
   have fin : ∀ σ2, Sat K G H₀ L F3 H3 σ2 ss' -> tt σ2 H3 fun b H5 => if b = true then te σ2 H5 fun y H6 => ∃ xs, H6 l = some (.lst xs) /\ xs.length < sizeLine /\ (∃ F2 vs, Ext F1 H1 F2 (upd H6 l (.lst (xs ++ [y]))) /\ F2 l = none /\ (upd H6 l (.lst (xs ++ [y]))) l = some (.lst vs) /\ Reps K F2 (((List.range (i + 1)).filter p).map f) vs /\ vs.length <= i + 1) else ∃ F2 vs, Ext F1 H1 F2 H5 /\ F2 l = none /\ H5 l = some (.lst vs) /\ Reps K F2 (((List.range (i + 1)).filter p).map f) vs /\ vs.length <= i + 1 := fun σ2 S2 => by
    refine evt F3 H3 σ2 _ S2 fun F5 H5 e5 => ?_
    have S5 := S2.ext2 e5
    have hl5 : H5 l = some (.lst vs) := e5.hh l _ hl3
    have fl5 : F5 l = none := (e5.no l _ hl3).trans fl3
    have gf : Same F2 F5 := e3.gf.trans e5.gf
    cases hp : p i with
    | false =>
     refine iteF ⟨F5, vs, (e2.trans e3).trans e5, fl5, hl5, ?_, by lia⟩
     rw [List.range_succ, List.filter_append, List.filter_cons, hp]
     simpa using rs.mono gf
    | true =>
     refine iteT (ev hp F5 H5 σ2 _ S5 fun v F6 H6 e6 rv => ?_)
     have hl6 : H6 l = some (.lst vs) := e6.hh l _ hl5
     have fl6 : F6 l = none := (e6.no l _ hl5).trans fl5
     refine ⟨vs, hl6, by lia, F6, vs ++ [v], (((e2.trans e3).trans e5).trans e6).write fl6 hl, fl6, zah, ?_, by simp; omega⟩
     rw [List.range_succ, List.filter_append, List.filter_cons, hp, if_pos rfl, List.map_append]
     exact (rs.mono (gf.trans e6.gf)).snoc rv
   refine hk x (lcS nt cs σ) H3 _ _ (fun σ2 H4 h l1 d1 => ?_) base
   obtain ⟨rfl, S2⟩ := h
   exact ⟨⟨by rw [l1]; unfold lcS; simp, d1⟩, fin σ2 S2⟩
  ·have e : i = n := by lia
   subst e
   exact .inl ⟨it2, q l vs F2 H2 (e1.trans e2) (e1.hh.free hl) fl hl2 rs⟩
end
end L2
namespace L2
open PySem PySem.W PyProof.Rows
section
variable (key : Nat -> Int)
noncomputable def kk (p : Array Nat) (i : Nat) : Int := key (p.getD i 0)
variable {key}
end
end L2
namespace L2
open PySem PySem.W PyProof.Rows
section
variable {prog : Program} {w : World} {A : Around} {E : Value -> Shared -> Prop} {s : Shared}
noncomputable def zsw (h h' : Heap) : Prop := ∀ b o, h.get? b = some o -> h'.get? b = some o
end
end L2
namespace L2
open PySem PySem.W PyProof.Rows
end L2
namespace L2
open PySem PySem.W PyProof.Rows
noncomputable def D.fo : D -> List Int
 | .str l => l.map Int.ofNat
 | .int i => [i]
 | _ => []
inductive Ty where | s | i
noncomputable def Ty.ok : Ty -> D -> Bool
 | .s, .str _ => true
 | .i, .int _ => true
 | _, _ => false
section
variable {prog : Program} {w : World} {A : Around} {E : Value -> Shared -> Prop} {s : Shared}
noncomputable def FV : D -> Value -> Prop
 | .str l, u => ∃ t, u = .str (T l) t
 | .int i, u => ∃ t, u = .int i t
 | _, _ => False
inductive FVs : List D -> List Value -> Prop
 | nil : FVs [] []
 | cons {d ds u us} : FV d u -> FVs ds us -> FVs (d :: ds) (u :: us)
end
end L2
set_option maxHeartbeats 1000000
namespace L2
open PySem PySem.W PyProof.Rows
end L2
namespace L2
open PySem PySem.W PyProof.Rows
structure MI (R : Nat -> Nat -> Prop) (ua ub o : List Nat) (i j : Nat) : Prop where
 hi : i <= ua.length
 hj : j <= ub.length
 pw : o.Pairwise R
 pa : ∀ x ∈ o, ∀ y ∈ ua.drop i, R x y
 pb : ∀ x ∈ o, ∀ y ∈ ub.drop j, R x y
 pm : o.Perm (ua.take i ++ ub.take j)
end L2
set_option maxHeartbeats 2000000
namespace L2
open PySem PySem.W PyProof.Rows
end L2
namespace L2
open PySem PySem.W PyProof.Rows
end L2
namespace L2
open PySem PySem.W PyProof.Rows
noncomputable def Seg (key : Nat -> Int) (p : Array Nat) (i j : Nat) : Prop := ∀ s t, i <= s -> s <= t -> t < j -> kk key p s <= kk key p t
end L2
namespace L2
open PySem PySem.W PyProof.Rows
end L2
namespace L2
open PySem PySem.W PyProof.Rows
noncomputable def Runs (key : Nat -> Int) (p : Array Nat) : List (Nat × Nat × Nat) -> Nat -> Nat -> Prop
 | [], lo, hi => lo = hi
 | r :: l, lo, hi => r.1 = lo /\ 0 < r.2.1 /\ Seg key p lo (lo + r.2.1) /\ Runs key p l (lo + r.2.1) hi
end L2
set_option maxHeartbeats 4000000
namespace L2
open PySem PySem.W PyProof.Rows
section
variable {X : Cx} {pins : List (Addr × Obj)} {σ : St} {H : Hp} {s : Shared}
noncomputable def Ty.tv : Ty -> Value
 | .s => .type "str"
 | .i => .type "int"
end
end L2
set_option maxHeartbeats 2000000
namespace L2
open PySem PySem.W PySem.Spec PyProof.Rows
noncomputable def cutD (xs : List D) (lo hi : Option Int) : List D := (xs.drop (HT.sIx xs.length 0 lo)).take (HT.sIx xs.length xs.length hi - HT.sIx xs.length 0 lo)
theorem Reps.cut {K : PySem.W.Frag} {H : Hp} {ds : List D} {xs : List V} (lo hi : Option Int) (h : Reps K H ds xs) : Reps K H (cutD ds lo hi) (cutV xs lo hi) := by
 unfold cutD cutV
 rw [<- h.length]
 exact (h.drop _).take _
section
variable {K : PySem.W.Frag} {G H₀ L : Hp} {ss : List Sl} {t ta tb : TE} {d : D} {ds : List D}
theorem zd2 (a : EvL K G H₀ L ss t ds) : Ev K G H₀ L ss (tCB (fun xs H Q => ∃ p ys, xs = [.ref p] /\ (SqL K H p ys \/ SqT K H p ys) /\ Q (.int ys.length) H) (zbf t tNil)) (.int ds.length) := fun F H σ Q S q =>
 a F H σ _ S fun p vs F' H' e sq r => ⟨p, vs, rfl, .inl sq, q _ _ _ e (by rw [<- r.length]; exact Rep.int)⟩
theorem znw {l : List Nat} (a : EvB K G H₀ L ss t (.str l)) (hz : l.length <= sizeLine) : Ev K G H₀ L ss (tCB (fun xs H Q => ∃ z : Str, xs = [.str z] /\ z.length <= sizeLine /\ Q (.int z.length) H) (zbf t tNil)) (.int l.length) := fun F H σ Q S q =>
 a F H σ _ S fun v F' H' e r => by
  rw [r.of_str]
  exact ⟨T l, rfl, by rw [zb4]; exact hz, q _ _ _ e (by rw [zb4]; exact Rep.int)⟩
noncomputable def EvP (K : PySem.W.Frag) (G H₀ L : Hp) (ss : List Sl) (t : TO) (o : Option Int) : Prop := ∀ F H σ (Q : Option Int -> Hp -> Prop), Sat K G H₀ L F H σ ss -> (∀ F' H', Ext F H F' H' -> Q o H') -> t σ H Q
theorem ziq : EvP K G H₀ L ss zhv none := fun F H σ Q S q => q _ _ (Ext.refl S.ext.fh)
theorem zed {i : Int} (a : EvB K G H₀ L ss t (.int i)) : EvP K G H₀ L ss (zmc t) (some i) := fun F H σ Q S q => a F H σ _ S fun v F' H' e r => ⟨i, r.of_int, q _ _ e⟩
theorem zf5 {tl th : TO} {lo hi : Option Int} (a : EvL K G H₀ L ss t ds) (b : EvP K G H₀ L ss tl lo) (c : EvP K G H₀ L ss th hi) : EvO K G H₀ L ss (tSl (rSlL K) t tl th) (cutD ds lo hi) := fun F H σ Q S q =>
 a F H σ _ S fun p vs F1 H1 e1 sq r => b F1 H1 σ _ (S.ext2 e1) fun F2 H2 e2 => c F2 H2 σ _ ((S.ext2 e1).ext2 e2) fun F3 H3 e3 =>
  ⟨p, vs, rfl, SqL.same e3.hh (SqL.same e2.hh sq), fun l hl => q l _ F3 _ (((e1.trans e2).trans e3).newO hl) (((e1.trans e2).trans e3).hh.free hl) (((e1.trans e2).trans e3).fh.free hl) zah (((r.mono e2.gf).mono e3.gf).cut lo hi)⟩
noncomputable def glue (z : List Nat) : List (List Nat) -> List Nat
 | [] => []
 | [x] => x
 | x :: y :: r => x ++ z ++ glue z (y :: r)
end
theorem zo7 (z : List Nat) : ∀ ls : List (List Nat), Str.join (T z) (ls.map T) = T (glue z ls)
 | [] => rfl
 | [x] => rfl
 | x :: y :: r => by
  have ih := zo7 z (y :: r)
  rw [List.map_cons] at ih
  rw [List.map_cons, List.map_cons]
  show T x ++ T z ++ Str.join (T z) (T y :: r.map T) = _
  rw [ih, zpm, zpm]; rfl
theorem zkd {z : List Nat} (hz : ∀ c ∈ z, c < 128) : ∀ {ls : List (List Nat)}, (∀ l ∈ ls, ∀ c ∈ l, c < 128) -> ∀ c ∈ glue z ls, c < 128
 | [], _, c, h => by cases h
 | [x], hl, c, h => hl x List.mem_cons_self c h
 | x :: y :: r, hl, c, h => by
  rw [glue] at h
  rcases List.mem_append.mp h with h | h
  ·rcases List.mem_append.mp h with h | h
   ·exact hl x List.mem_cons_self c h
   ·exact hz c h
  ·exact zkd hz (ls:=y :: r) (fun l hm => hl l (List.mem_cons_of_mem _ hm)) c h
theorem Reps.strs {K : PySem.W.Frag} {H : Hp} : ∀ {ls : List (List Nat)} {vs : List V}, Reps K H (ls.map D.str) vs -> vs = (ls.map T).map V.str /\ ∀ l ∈ ls, ∀ c ∈ l, c < 128
 | [], vs, h => by rw [List.map_nil, Reps] at h; subst h; exact ⟨rfl, by simp⟩
 | l :: ls, vs, h => by
  rw [List.map_cons, Reps] at h
  obtain ⟨x, xs, rfl, h1, h2⟩ := h
  obtain ⟨e, ha⟩ := h2.strs
  refine ⟨by rw [h1.of_str, e]; rfl, fun m hm => ?_⟩
  rcases List.mem_cons.mp hm with rfl | hm
  ·exact h1.asc
  ·exact ha m hm
section
variable {K : PySem.W.Frag} {G H₀ L : Hp} {ss : List Sl} {t ta tb : TE} {d : D} {ds : List D}
theorem zfi {z : List Nat} {ls : List (List Nat)} (a : EvB K G H₀ L ss ta (.str z)) (b : EvL K G H₀ L ss t (ls.map D.str)) (hz : (ls.map List.length).sum + ls.length * z.length <= 16777216) : Ev K G H₀ L ss (tBM K "str" (znx K) ta (zbf t tNil)) (.str (glue z ls)) := fun F H σ Q S q =>
 a F H σ _ S fun v F1 H1 e1 r1 => by
  rw [r1.of_str]
  refine ⟨rfl, b F1 H1 σ _ (S.ext2 e1) fun p vs F2 H2 e2 sq r2 => ?_⟩
  obtain ⟨rfl, ha⟩ := r2.strs
  refine ⟨T z, p, ls.map T, rfl, rfl, sq, ?_, ?_⟩
  ·rw [List.map_map, List.length_map, zb4, show ((fun x : Str => x.length) ∘ T) = List.length from funext fun l => zb4 l]; exact hz
  ·rw [zo7]
   exact q _ _ _ (e1.trans e2) (Rep.str (zkd r1.asc ha))
end
noncomputable def zcm (goes : Nat -> Bool) (l : List Nat) : List Nat := ((l.dropWhile goes).reverse.dropWhile goes).reverse
theorem zb6 (g : Nat -> Bool) : ∀ l : List Nat, l.drop (l.takeWhile g).length = l.dropWhile g
 | [] => rfl
 | x :: l => by
  rw [List.takeWhile_cons, List.dropWhile_cons]
  cases g x with
  | true => simp only [if_true, List.length_cons, List.drop_succ_cons]; exact zb6 g l
  | false => rfl
theorem zqj (l y : List Nat) : Txt.stripChars (T l) (T y) = T (zcm y.contains l) := by
 have ct : (T y).cps.contains = y.contains := by funext c; simp [T]
 have key : PySem.stripped y.contains true true (T l) = T (zcm y.contains l) := by
  unfold PySem.stripped PySem.stripLo PySem.stripHi
  simp only [if_true, zf7, zb4]
  rw [zb6]
  have h1 : (l.takeWhile y.contains).length + (l.dropWhile y.contains).length = l.length := by
   rw [<- List.length_append, List.takeWhile_append_dropWhile]
  have e : Builtin.Str.strSub (T l) (l.takeWhile y.contains).length (l.length - ((l.dropWhile y.contains).reverse.takeWhile y.contains).length) = T ((l.drop (l.takeWhile y.contains).length).take (l.length - ((l.dropWhile y.contains).reverse.takeWhile y.contains).length - (l.takeWhile y.contains).length)) := by
   unfold Builtin.Str.strSub
   congr 1
   apply Array.toList_inj.mp
   rw [Array.toList_extract]
   show List.extract (T l).cps.toList _ _ = _
   rw [zf7]
  rw [e, zb6]
  congr 1
  unfold zcm
  have h2 := zb6 y.contains (l.dropWhile y.contains).reverse
  rw [<- h2]
  have h3 : ((l.dropWhile y.contains).reverse.takeWhile y.contains).length <= (l.dropWhile y.contains).length := by
   have := (List.takeWhile_sublist (p:=y.contains) (l:=(l.dropWhile y.contains).reverse)).length_le
   simpa using this
  rw [List.drop_reverse, List.reverse_reverse]
  congr 1; omega
 unfold Txt.stripChars Txt.stripBy
 rw [ct]
 split
 ·rename_i h
  rw [<- key]
  unfold stripSame at h
  simp only [Bool.and_eq_true, beq_iff_eq] at h
  unfold PySem.stripped
  rw [h.2, h.1]
  unfold Builtin.Str.strSub
  have : (T l).cps.extract 0 (T l).length = (T l).cps := by
   show (T l).cps.extract 0 (T l).cps.size = _
   simp
  rw [this]
 ·exact key
noncomputable def zmg : V -> List V -> Hp -> VK -> Prop := fun x vs H Q => ∃ z y, x = .str z /\ vs = [.str y] /\ z.length <= sizeLine /\ Q (.str (Txt.stripChars z y)) H
section
variable {X : Cx}
theorem zji : MtR X "str.strip" zmg := by
 intro pins s σ H x xs v us Q I rx rs h
 obtain ⟨z, y, rfl, rfl, hz, q⟩ := h
 obtain ⟨t, rfl⟩ := rx
 obtain ⟨u, rfl, ru⟩ := Vals.one rs
 obtain ⟨u, rfl⟩ := ru
 exact SC.stripChars (fun t' k => ⟨.str _, H, I.tok _, ⟨_, rfl⟩, q⟩) hz
end
section
variable {K : PySem.W.Frag} {G H₀ L : Hp} {ss : List Sl} {t ta tb : TE} {d : D} {ds : List D}
theorem zfa {l y : List Nat} (a : EvB K G H₀ L ss ta (.str l)) (b : EvB K G H₀ L ss t (.str y)) (hz : l.length <= sizeLine) : Ev K G H₀ L ss (tBM K "str" zmg ta (zbf t tNil)) (.str (zcm y.contains l)) := fun F H σ Q S q =>
 a F H σ _ S fun v F1 H1 e1 r1 => by
  rw [r1.of_str]
  refine ⟨rfl, b F1 H1 σ _ (S.ext2 e1) fun v2 F2 H2 e2 r2 => ?_⟩
  refine ⟨T l, T y, rfl, by rw [r2.of_str], by rw [zb4]; exact hz, ?_⟩
  rw [zqj]
  refine q _ _ _ (e1.trans e2) (Rep.str fun c hc => r1.asc c ?_)
  unfold zcm at hc
  exact (List.dropWhile_sublist _).subset (List.mem_reverse.mp ((List.dropWhile_sublist _).subset (List.mem_reverse.mp hc)))
end
end L2
namespace L2
open PySem PySem.W PySem.Spec PyProof.Rows
noncomputable def rAll (K : PySem.W.Frag) : List V -> Hp -> VK -> Prop := fun xs H Q => ∃ p, ∃ bs : List Bool, xs = [.ref p] /\ SqL K H p (bs.map V.bl) /\ Q (.bl (bs.all id)) H
section
variable {X : Cx} {prog : Program} {w : World} {A : Around} {E : Value -> Shared -> Prop} {s : Shared}
theorem zoa {h' : Heap} {o : Obj} {k : Nat} (hk : ∀ b x, b ∉ [s.heap.objs.size] -> (s.heap.push o).get? b = some x -> h'.get? b = some x) : zsw s.heap h' := fun b x e => by
 refine hk b x (fun hm => ?_) (Heap.get?_push_of_some _ e)
 have h1 := Heap.lt_size e
 rw [List.mem_singleton.mp hm] at h1
 exact Nat.lt_irrefl _ h1
theorem zm2 : ∀ {bs : List Bool} {us : List Value}, Vals (bs.map V.bl) us -> us = bs.map Value.bool
 | [], _, .nil => rfl
 | b :: bs, _, .cons r1 r2 => by rw [zm2 r2]; cases r1; rfl
theorem zlh : ∀ bs : List Bool, ((List.range bs.length).all fun i => (bs[i]?).getD true) = bs.all id := fun bs => by
 rw [Bool.eq_iff_iff, List.all_eq_true, List.all_eq_true]
 constructor
 ·intro h b hb
  obtain ⟨i, hi, e⟩ := List.getElem_of_mem hb
  have := h i (List.mem_range.mpr hi)
  rw [List.getElem?_eq_getElem hi, Option.getD_some, e] at this
  exact this
 ·intro h i hi
  have hi' := List.mem_range.mp hi
  rw [List.getElem?_eq_getElem hi', Option.getD_some]
  exact h _ (List.getElem_mem hi')
theorem zn4 (hc : X.calm = true) : zco X (.builtin "all") (rAll X.K) := by
 intro pins s σ H xs us Q I r h
 obtain ⟨p, bs, rfl, hq, q⟩ := h
 obtain ⟨u, rfl, ru⟩ := zjr r
 cases ru
 obtain ⟨its, rv, pl, _⟩ := I.list hq
 obtain rfl := zm2 rv
 have hl := pl.isList
 have hlt : p < s.heap.objs.size := by obtain ⟨_, e, _⟩ := hl; exact Heap.lt_size e
 refine call_all_walk (wpAny_pyIter_list hl ⟨s.heap.objs.size, [s.heap.objs.size, p], [s.heap.objs.size], (bs.map Value.bool).toArray.size, _, _, fun i => (bs[i]?).getD true, rfl,
  Walks.list (A:=X.A.in1) (I.ok.hd hc) _ p (Nat.ne_of_lt hlt) _, ⟨⟨_, Heap.get?_push_size _ rfl, rfl, rfl⟩, hl.push _⟩, fun i v s' Q' E' hP hQ => ?_, fun h' tk hk => ?_⟩)
 ·have hP' : (bs.map Value.bool)[i]? = some v := by simpa using hP
  rw [List.getElem?_map] at hP'
  cases hb : bs[i]? with
  | none => rw [hb] at hP'; cases hP'
  | some b =>
   rw [hb] at hP'
   cases hP'
   simp only [hb, Option.getD_some] at hQ
   exact wpAny_truthy_bool hQ
 ·have e : ((List.range (bs.map Value.bool).toArray.size).all fun i => (bs[i]?).getD true) = bs.all id := by
   rw [List.size_toArray, List.length_map]; exact zlh bs
  rw [e]
  exact ⟨.bl _, H, I.kept (zoa (k:=0) hk), rfl, q⟩
noncomputable def two (x y : Str) (t u : Tok) : Array Value := #[.str x t, .str y u]
end
end L2
namespace L2
open PySem PySem.W PySem.Spec PyProof.Rows PySem.Calls
open PySem.MeetsSeq PySem.MeetsSeq2 PySem.MeetsSeq3
section
variable {K : PySem.W.Frag} {G H₀ L : Hp} {ss : List Sl} {t ta tb : TE} {d : D} {ds es : List D}
theorem Reps.bools {H : Hp} : ∀ {bs : List Bool} {vs : List V}, Reps K H (bs.map D.bl) vs -> vs = bs.map V.bl
 | [], vs, h => by rw [List.map_nil, Reps] at h; exact h
 | b :: bs, vs, h => by
  rw [List.map_cons, Reps] at h
  obtain ⟨x, xs, rfl, h1, h2⟩ := h
  rw [h1.of_bl, h2.bools]; rfl
theorem zq9 {bs : List Bool} (a : EvL K G H₀ L ss t (bs.map D.bl)) : Ev K G H₀ L ss (tCB (rAll K) (zbf t tNil)) (.bl (bs.all id)) := fun F H σ Q S q =>
 a F H σ _ S fun p vs F1 H1 e1 sq r1 => ⟨p, bs, rfl, by rw [r1.bools] at sq; exact sq, q _ _ _ e1 Rep.bl⟩
end
end L2
namespace L2
open PySem PySem.W PySem.Spec PyProof.Rows
noncomputable def slots (n : Nat) (ds : List D) : List Sl := ds.map Sl.d ++ List.replicate (n - ds.length) .un
section
variable {K : PySem.W.Frag} {H : Hp} {vs : List V} {Q : VK} {X : XK} {N : List Str} {t : TS} {pre : List D -> Prop}
theorem zcu {G : Hp} {ds : List D} (sm : Same G H) (r : Reps K G ds vs) (hN : vs.length <= N.length) : Sat K G H G G H (start N vs) (slots N.length ds) := by
 have hl := r.length
 have ads : ∀ (i : Nat) s, (slots N.length ds)[i]? = some s -> s.ads = [] := fun i s hs => by
  have hm := List.mem_of_getElem? hs
  unfold slots at hm
  rcases List.mem_append.mp hm with h | h
  ·obtain ⟨d, _, rfl⟩ := List.mem_map.mp h; rfl
  ·rw [List.eq_of_mem_replicate h]; rfl
 refine ⟨Ext.refl sm, Same.refl _, ?_, fun i s hs => ?_, fun i s hs => by rw [ads i s hs]; exact List.nodup_nil, fun i j s s' _ hs _ p hp => by rw [ads i s hs] at hp; cases hp⟩
 ·unfold start slots; simp; lia
 ·by_cases hi : i < ds.length
  ·have e : (slots N.length ds)[i]? = some (.d ds[i]) := by
    unfold slots
    rw [List.getElem?_append_left (by simpa using hi), List.getElem?_map, List.getElem?_eq_getElem hi]; rfl
   rw [e] at hs
   cases hs
   obtain ⟨v, hv, rv⟩ := r.get' (List.getElem?_eq_getElem hi)
   refine ⟨v, ?_, rv⟩
   unfold start
   rw [List.getD_eq_getElem?_getD, List.getElem?_append_left (by simp; lia), List.getElem?_map, hv]; rfl
  ·have hm : s = .un := by
    unfold slots at hs
    rw [List.getElem?_append_right (by simp; lia)] at hs
    exact List.eq_of_mem_replicate (List.mem_of_getElem? hs)
   rw [hm]; trivial
theorem zg2 {res : List D -> D} (h : SpD K pre res vs H Q X) (hN : vs.length <= N.length) (body : ∀ G ds, pre ds -> RtD K G H Q (res ds) -> Go K G H G { nx := fun _ H' => Q .non H', rt := Q } (slots N.length ds) t) : t { nx := fun _ H' => Q .non H', rt := Q } (start N vs) H := by
 obtain ⟨G, ds, sm, r, hp, q⟩ := h
 exact body G ds hp (fun v F H' e r => q v F H' e r) G H _ (zcu sm r hN)
theorem zq1 {res : List D -> List D} (h : SpO K pre res vs H Q X) (hN : vs.length <= N.length) (body : ∀ G ds, pre ds -> RtO K G H Q (res ds) -> Go K G H G { nx := fun _ H' => Q .non H', rt := Q } (slots N.length ds) t) : t { nx := fun _ H' => Q .non H', rt := Q } (start N vs) H := by
 obtain ⟨G, ds, sm, r, hp, q⟩ := h
 exact body G ds hp (fun p ws F H' e h1 h2 h3 r => q p ws F H' e h1 h2 h3 r) G H _ (zcu sm r hN)
theorem zca {res : List D -> D} {n : Nat} (hpre : ∀ ds, pre ds -> ds.length = n) (h : SpD K pre res vs H Q X) : vs.length = n := by
 obtain ⟨G, ds, sm, r, hp, q⟩ := h
 rw [<- r.length]; exact hpre ds hp
theorem zm4 {res : List D -> List D} {n : Nat} (hpre : ∀ ds, pre ds -> ds.length = n) (h : SpO K pre res vs H Q X) : vs.length = n := by
 obtain ⟨G, ds, sm, r, hp, q⟩ := h
 rw [<- r.length]; exact hpre ds hp
end
section
variable {K : PySem.W.Frag} {G H₀ L : Hp} {ss : List Sl} {t ta tb : TE} {d : D} {ds es : List D} {i j : Int}
theorem zd9 (a : EvB K G H₀ L ss ta (.int i)) (b : EvB K G H₀ L ss tb (.int j)) (h : 0 < j) : Ev K G H₀ L ss (tOp (rI (fun _ j => 0 < j) fun i j => .int (i % j)) ta tb) (.int (i % j)) := zl7 (C:=fun _ j => 0 < j) (g:=fun i j => i % j) a b h
theorem zff (a : EvB K G H₀ L ss ta (.int i)) (b : EvB K G H₀ L ss tb (.int j)) (h : CDiv i j) : Ev K G H₀ L ss (tOp (rI CDiv fun i j => .int (i / j)) ta tb) (.int (i / j)) := zl7 (C:=CDiv) (g:=fun i j => i / j) a b h
end
theorem zo3 (n d : Nat) {a : Int} (h : 0 <= a) : HT.sIx n d (some a) = min a.toNat n := by
 show (if a < 0 then (a + (n : Int)).toNat else min a.toNat n) = _
 rw [if_neg (by lia)]
theorem zqd (m : List D) {a : Int} (h : 0 <= a) : cutD m none (some a) = m.take a.toNat := by
 unfold cutD
 rw [zo3 _ _ h, show HT.sIx m.length 0 none = 0 from rfl, List.drop_zero, Nat.sub_zero, <- List.take_eq_take_min]
theorem zmb (m : List D) {b : Int} (h : 0 <= b) : cutD m (some b) none = m.drop b.toNat := by
 unfold cutD
 rw [zo3 _ _ h, show HT.sIx m.length m.length none = m.length from rfl, List.take_of_length_le (by rw [List.length_drop]; lia)]
 by_cases hh : b.toNat <= m.length
 ·rw [Nat.min_eq_left hh]
 ·rw [Nat.min_eq_right (by lia), List.drop_length, List.drop_eq_nil_of_le (by lia)]
end L2
namespace L2
open PySem PySem.W PySem.Spec PyProof.Rows
theorem zhj {α β : Type} (xs : List α) (z : α) (p : α -> Bool) (f : α -> β) : ((List.range xs.length).filter fun i => p (xs.getD i z)).map (fun i => f (xs.getD i z)) = (xs.filter p).map f := by
 have e : xs = (List.range xs.length).map fun i => xs.getD i z := by
  refine List.ext_getElem? fun i => ?_
  rw [List.getElem?_map]
  by_cases hi : i < xs.length
  ·rw [List.getElem?_range hi, List.getElem?_eq_getElem hi]; simp [List.getD_eq_getElem?_getD, hi]
  ·rw [List.getElem?_eq_none (by lia), List.getElem?_eq_none (by simp; lia)]; rfl
 conv => rhs; rw [e]
 rw [List.filter_map, List.map_map]
 rfl
section
variable {K : PySem.W.Frag} {G H₀ L : Hp} {ss : List Sl}
theorem znu {α : Type} (xs : List α) (enc : α -> D) (p : α -> Bool) (f : α -> D) {tl : TE} {g : TG} {tt : TT} {te : TE} {nt : Nat} {cs : List Nat} (a : EvL K G H₀ L ss tl (xs.map enc)) (hk : GK nt g) (hc : cs.Nodup) (hz : xs.length < sizeLine)
  (hs : ∀ x ∈ xs, ∃ ss', Tg K G H₀ L g (enc x) (lcSl nt cs ss) ss' /\ EvT K G H₀ L ss' tt (p x) /\ (p x = true -> Ev K G H₀ L ss' te (f x))) :
  EvO K G H₀ L ss (tLC nt cs (zm3 K tl) g tt te) ((xs.filter p).map f) := by
 cases xs with
 | nil =>
  have := zg9 (p:=fun _ => true) (f:=fun _ => .non) (tt:=tt) (te:=te) (zhe a) hk hc (by simpa using hz) (fun i hi => by simp at hi)
  simpa using this
 | cons z zs =>
  have hl : ((z :: zs).map enc).length = (z :: zs).length := by simp
  have := zg9 (p:=fun i => p ((z :: zs).getD i z)) (f:=fun i => f ((z :: zs).getD i z)) (tt:=tt) (te:=te) (zhe a) hk hc (by rw [hl]; exact hz) (fun i hi => by
   rw [hl] at hi
   have hm : (z :: zs).getD i z ∈ (z :: zs) := by
    rw [List.getD_eq_getElem?_getD, List.getElem?_eq_getElem hi]; exact List.getElem_mem hi
   have e : ((z :: zs).map enc).getD i .non = enc ((z :: zs).getD i z) := by
    rw [List.getD_eq_getElem?_getD, List.getElem?_map, List.getD_eq_getElem?_getD, List.getElem?_eq_getElem hi]; rfl
   rw [e]
   exact hs _ hm)
  rw [hl, zhj] at this
  exact this
theorem zk6 : EvT K G H₀ L ss zf8 true := fun F H σ Q S q => q _ _ (Ext.refl S.ext.fh)
theorem zqi {α : Type} (xs : List α) (enc : α -> D) (f : α -> D) {tl : TE} {g : TG} {te : TE} {nt : Nat} {cs : List Nat} (a : EvL K G H₀ L ss tl (xs.map enc)) (hk : GK nt g) (hc : cs.Nodup) (hz : xs.length < sizeLine)
  (hs : ∀ x ∈ xs, ∃ ss', Tg K G H₀ L g (enc x) (lcSl nt cs ss) ss' /\ Ev K G H₀ L ss' te (f x)) :
  EvO K G H₀ L ss (tLC nt cs (zm3 K tl) g zf8 te) (xs.map f) := by
 have := znu xs enc (fun _ => true) f a hk hc hz (tt:=zf8) (te:=te) fun x hx => by
  obtain ⟨ss', h1, h2⟩ := hs x hx
  exact ⟨ss', h1, zk6, fun _ => h2⟩
 rw [show xs.filter (fun _ => true) = xs from List.filter_eq_self.mpr (by simp)] at this
 exact this
theorem zpx {α : Type} {xs : List α} {g : α -> Bool} {t : TE} (b : EvL K G H₀ L ss t (xs.map fun x => D.bl (g x))) : Ev K G H₀ L ss (tCB (rAll K) (zbf t tNil)) (.bl (xs.all g)) := by
 have := zq9 (K:=K) (G:=G) (H₀:=H₀) (L:=L) (ss:=ss) (t:=t) (bs:=xs.map g) (by rw [List.map_map]; exact b)
 rw [List.all_map] at this
 exact this
end
end L2
set_option maxHeartbeats 4000000
namespace L2T
open PySem
structure TOk (t : SetTable) : Prop where
 pl : t.place.toList.Pairwise (· < ·)
 du : t.dummies.toList.Pairwise (· < ·)
 ple : ∀ j ∈ t.place.toList, j <= t.mask
 dle : ∀ j ∈ t.dummies.toList, j <= t.mask
 dis : ∀ j ∈ t.dummies.toList, j ∉ t.place.toList
 pow : ∃ k, t.mask + 1 = 2 ^ (k + 3)
 big : t.mask <= 8191
end L2T
namespace L2T
open PySem SetTable
noncomputable def advM (mask : Nat) (p : Probe) : Probe :=
 if p.more > 0 then { p with j := p.j + 1, more := p.more - 1 } else
 let (i, perturb) := leap mask p.i p.perturb
 { p with j := i, more := runEnd mask i - i, i, perturb }
noncomputable def stM (mask i perturb : Nat) : Probe := { j := i, more := runEnd mask i - i, i, perturb, dummy := none }
noncomputable def prM (mask : Nat) (h : Int) : Nat -> Probe
 | 0 => stM mask (bits h % (mask + 1)) (bits h)
 | n + 1 => advM mask (prM mask h n)
noncomputable def posM (mask : Nat) (h : Int) (n : Nat) : Nat := (prM mask h n).j
noncomputable def zsl (t : SetTable) (h : Int) (j : Nat) : Prop := ∃ n, posM t.mask h n = j /\ ∀ m, m < n -> t.slot (posM t.mask h m) ≠ .empty
end L2T
namespace L2T
open PySem SetTable
structure SOk {α : Type} (t : SetTable) (es : List (Int × α)) : Prop where
 ok : TOk t
 room : t.fill * 5 < t.mask * 3
 size : t.place.size = es.length
 reach : ∀ c ∈ t.place.toList.zip es, zsl t c.2.1 c.1
noncomputable def zsm (mask : Nat) (owner : Array (Option Nat)) : List (Nat × Nat) := (List.range (mask + 1)).filterMap fun j => (owner.getD j none).map (j, ·)
structure LInv (mask : Nat) (hs : List Int) (owner : Array (Option Nat)) : Prop where
 size : owner.size = mask + 1
 perm : ((zsm mask owner).map (·.2)).Perm (List.range hs.length)
 reach : ∀ j i, owner.getD j none = some i -> ∃ h, hs[i]? = some h /\ ∃ n, posM mask h n = j /\ ∀ q, q < n -> owner.getD (posM mask h q) (some 0) ≠ none
end L2T
namespace L2T
open PySem SetTable
end L2T
namespace L2
open PySem PySem.Spec PyProof.Rows L2T
inductive SK where
 | one (k : Key)
 | many (ks : List Key)
 deriving DecidableEq
noncomputable def SK.flat : SK -> Bool
 | .one _ => true
 | .many _ => false
section
variable (prog : Program) (w : World)
noncomputable def SK.is (h : Heap) : SK -> Value -> Prop
 | .one k, v => (zem prog w).is k v = true
 | .many ks, v => ∃ a, v = .ref a /\ IsTupleKey (zem prog w) h ks a
noncomputable def SK.hash : SK -> Int
 | .one k => (zem prog w).hash k
 | .many ks => tupleKeyHash (zem prog w) ks
inductive Es (h : Heap) : List SK -> List (Int × Value) -> Prop
 | nil : Es h [] []
 | cons {k : SK} {e : Int × Value} {ks : List SK} {es : List (Int × Value)} : e.1 = k.hash prog w -> k.is prog w h e.2 -> Es h ks es -> Es h (k :: ks) (e :: es)
noncomputable def led0 : Bool := !w.params.followText "set-order"
structure SetO (h : Heap) (o : Obj) (ks : List SK) (es : Array (Int × Value)) (ep : Nat) (t : SetTable) : Prop where
 ex : o.ExactSet
 data : o.data = .set es ep t
 tab : SOk t es.toList
 ent : Es prog w h ks es.toList
 nod : ks.Nodup
 small : ks.length <= 1000
 led : t.led = led0 w
 kind : ∃ f, ∀ k ∈ ks, k.flat = f
end
end L2
namespace L2
open PySem PySem.Spec PyProof.Rows L2T
end L2
namespace L2
open PySem PySem.Spec PyProof.Rows L2T
end L2
namespace L2
open PySem PySem.Spec PyProof.Rows L2T
section
variable {prog : Program} {w : World} {A : Around} {E : Value -> Shared -> Prop} {s : Shared}
theorem zls {n : Nat} (h : n <= 1001) : n <= sizeLine := by rw [sizeLine_eq]; lia
end
end L2
namespace L2
open PySem PySem.Spec PyProof.Rows L2T
section
variable {prog : Program} {w : World} {A : Around} {E : Value -> Shared -> Prop} {s : Shared}
structure SetL (w : World) (o : Obj) (es : Array (Int × Value)) (ep : Nat) (t : SetTable) : Prop where
 data : o.data = .set es ep t
 tab : SOk t es.toList
 led : t.led = led0 w
end
end L2
namespace L2
open PySem PySem.Spec PyProof.Rows L2T
end L2
namespace L2
open PySem PySem.Spec PyProof.Rows L2T
end L2
namespace L2
open PySem PySem.Spec PyProof.Rows L2T
section
variable {prog : Program} {w : World} {A : Around} {E : Value -> Shared -> Prop} {s : Shared}
structure Part (prog : Program) (w : World) (k0 : List SK) (items : Array Value) (i : Nat) (ks : List SK) (es : Array (Int × Value)) : Prop where
 mem : ∀ k, k ∈ ks ↔ ∃ j : Nat, j < i /\ k0[j]? = some k
 len : ks.length <= i
 ent : ∀ e ∈ es.toList, ∃ j : Nat, items[j]? = some e.2
end
end L2
namespace L2
open PySem PySem.Spec PyProof.Rows L2T
end L2
namespace L2
open PySem PySem.Spec PyProof.Rows L2T
end L2
namespace L2
open PySem PySem.Spec PyProof.Rows L2T
section
variable {prog : Program} {w : World} {A : Around} {E : Value -> Shared -> Prop} {s : Shared}
structure Took (kb : List SK) (p : SK -> Bool) (es0 : List (Int × Value)) (kd : List SK) (kr : List SK) (er : Array (Int × Value)) : Prop where
 mem : ∀ k, k ∈ kr ↔ k ∈ kb \/ (k ∈ kd /\ p k = true)
 len : kr.length <= kb.length + kd.length
 ent : ∀ e ∈ er.toList, e ∈ es0
end
end L2
namespace L2
open PySem PySem.Spec PyProof.Rows L2T
end L2
namespace L2
open PySem PySem.Spec PyProof.Rows L2T
end L2
namespace L2
open PySem PySem.Spec PyProof.Rows L2T
end L2
namespace L2
open PySem PySem.Spec PyProof.Rows L2T
end L2
namespace L2
open PySem PySem.Spec PyProof.Rows L2T
end L2
namespace L2
open PySem PySem.Spec PyProof.Rows L2T
end L2
namespace L2
open PySem PySem.Spec PyProof.Rows L2T
noncomputable def D.kk : D -> Key
 | .int i => .inl i
 | .str l => .inr (T l)
 | _ => .inl 0
noncomputable def D.fl : D -> Bool
 | .int _ => true
 | .str _ => true
 | _ => false
noncomputable def D.hk : Bool -> D -> Bool
 | true, d => d.fl
 | false, .tup ds => ds.all D.fl
 | false, _ => false
end L2
namespace L2
open PySem PySem.Spec PyProof.Rows L2T
end L2
namespace L2
open PySem PySem.W PyProof.Rows L2T
end L2
namespace L2
open PySem PySem.W PyProof.Rows L2T
end L2
namespace L2
open PySem PySem.W PyProof.Rows L2T
end L2
namespace L2
open PySem PySem.W PyProof.Rows L2T
noncomputable def zfh (K : PySem.W.Frag) : R2 := fun x y H Q => ∃ l b xs zs, x = .ref l /\ y = .ref b /\ SqL K H l xs /\ SqL K H b zs /\ xs.length + zs.length <= sizeLine /\ ∀ p, H p = none -> Q (.ref p) (upd H p (.lst (xs ++ zs)))
theorem zcw {X : Cx} : OpR X (binaryOp .Add) (zfh X.K) := by
 intro pins s σ H x y v u Q I rx ry h
 obtain ⟨l, b, xs, zs, rfl, rfl, hl, hb, hz, q⟩ := h
 cases rx
 cases ry
 obtain ⟨its, r, pl, _⟩ := I.list hl
 obtain ⟨its2, r2, pl2, _⟩ := I.list hb
 have z1 := r.length
 have z2 := r2.length
 obtain ⟨⟨cls, dd, data, sl⟩, ho, hc, n, hd⟩ := pl.isList
 obtain ⟨⟨cls2, dd2, data2, sl2⟩, ho2, hc2, n2, hd2⟩ := pl2.isList
 dsimp only at hc hd hc2 hd2
 subst hc; subst hd; subst hc2; subst hd2
 refine concat_meets ⟨_, ho, rfl⟩ ⟨_, ho2, rfl⟩ noFill_list_add seq_list_add PySem.F.slot_list_add PySem.F.entry_list_add (PySem.F.args_list_add_2 _ _) (list_addW l b its.toArray its2.toArray n n2 dd dd2 sl sl2 (by simp; lia)) ⟨ho, ho2, ?_⟩
 have ea : its.toArray ++ its2.toArray = (its ++ its2).toArray := by simp
 rw [ea]
 exact ⟨.ref _, _, I.lnew (t':=s.toks) (r.append r2) (by rw [List.length_append]; omega), rfl, q _ I.fresh⟩
section
variable {K : PySem.W.Frag} {G H₀ L : Hp} {ss : List Sl} {ta tb : TE} {da db : List D}
theorem zcx (a : EvL K G H₀ L ss ta da) (b : EvL K G H₀ L ss tb db) (hz : da.length + db.length <= sizeLine) : EvO K G H₀ L ss (tOp (zfh K) ta tb) (da ++ db) := fun F H σ Q S q =>
 a F H σ _ S fun p vs F1 H1 e1 sq1 r1 => b F1 H1 σ _ (S.ext2 e1) fun p2 vs2 F2 H2 e2 sq2 r2 => by
  have l1 := r1.length
  have l2 := r2.length
  refine ⟨p, p2, vs, vs2, rfl, rfl, SqL.same e2.hh sq1, sq2, by lia, fun l hl => ?_⟩
  have e12 := e1.trans e2
  exact q l _ F2 _ (e12.newO hl) (e12.hh.free hl) (e12.fh.free hl) zah ((r1.mono e2.gf).append r2)
theorem zol {d : D} {v : V} (r : ∀ H, Rep K H d v) : Ev K G H₀ L ss (tC v) d := fun F H σ Q S q => q _ _ _ (Ext.refl S.ext.fh) (r _)
end
theorem zii {K : PySem.W.Frag} {H : Hp} : ∀ (ls : List (List Nat)), (∀ l ∈ ls, ∀ c ∈ l, c < 128) -> Reps K H (ls.map .str) (ls.map fun l => .str (T l))
 | [], _ => Reps.nil
 | l :: ls, h => Reps.cons (Rep.str (h l List.mem_cons_self)) (zii ls fun l' hl => h l' (List.mem_cons_of_mem _ hl))
theorem zg1 : ∀ {ls : List (List Nat)} {us : List Value}, ls.length = us.length -> (∀ (i : Nat) (l : List Nat) (u : Value), ls[i]? = some l -> us[i]? = some u -> ∃ t, u = .str (T l) t) -> Vals (ls.map fun l => V.str (T l)) us
 | [], us, hl, _ => by cases us with
  | nil => exact .nil
  | cons _ _ => simp at hl
 | l :: ls, us, hl, h => by cases us with
  | nil => simp at hl
  | cons u us => exact .cons (h 0 l u rfl rfl) (zg1 (by simpa using hl) fun i l' u' h1 h2 => h (i + 1) l' u' h1 h2)
noncomputable def TupK (K : PySem.W.Frag) (a : Addr) (ls : List (List Nat)) : Prop := ∀ H, Rep K H (.tup (ls.map .str)) (.ref a)
theorem zpk {K : PySem.W.Frag} {a : Addr} {o : Obj} {its : Array Value} {n : Nat} {ls : List (List Nat)} (hk : K.lookup a = some o) (hc : o.cls = .type "tuple") (hd : o.data = .seq its n) (hl : ls.length = its.size) (hs : ls.length <= 1000) (ha : ∀ l ∈ ls, ∀ c ∈ l, c < 128)
  (h : ∀ (i : Nat) (l : List Nat) (u : Value), ls[i]? = some l -> its.toList[i]? = some u -> ∃ t, u = .str (T l) t) : TupK K a ls := fun H =>
 Rep.tup (.inr ⟨o, its, n, hk, hc, hd, by rw [<- hl]; exact zls (by lia), zg1 (by simpa using hl) h⟩) (zii ls ha)
end L2
namespace L2
open PySem PySem.W PyProof.Rows L2T
end L2
namespace L2
open PySem PySem.W PyProof.Rows L2T
end L2
namespace L2
open PySem PySem.W PyProof.Rows L2T
end L2
namespace L2
open PySem PySem.W PySem.Spec PyProof.Rows
noncomputable def SpR (K : PySem.W.Frag) (pre : List D -> Prop) (R : List D -> List D -> Prop) : Sp := fun vs H Q _ => ∃ G ds, Same G H /\ Reps K G ds vs /\ pre ds /\ ∀ rs, R ds rs -> ∀ p ws G' H', Ext G H G' H' -> H p = none -> G' p = none -> H' p = some (.lst ws) -> Reps K G' rs ws -> Q (.ref p) H'
section
variable {K : PySem.W.Frag} {H : Hp} {vs : List V} {Q : VK} {X : XK} {N : List Str} {t : TS} {pre : List D -> Prop} {R : List D -> List D -> Prop}
theorem zr1 (h : SpR K pre R vs H Q X) (hN : vs.length <= N.length) (body : ∀ G ds, pre ds -> (∀ rs, R ds rs -> RtO K G H Q rs) -> Go K G H G { nx := fun _ H' => Q .non H', rt := Q } (slots N.length ds) t) : t { nx := fun _ H' => Q .non H', rt := Q } (start N vs) H := by
 obtain ⟨G, ds, sm, r, hp, q⟩ := h
 exact body G ds hp (fun rs hR p ws F H' e h1 h2 h3 r => q rs hR p ws F H' e h1 h2 h3 r) G H _ (zcu sm r hN)
theorem zmv {n : Nat} (hpre : ∀ ds, pre ds -> ds.length = n) (h : SpR K pre R vs H Q X) : vs.length = n := by
 obtain ⟨G, ds, sm, r, hp, q⟩ := h
 rw [<- r.length]; exact hpre ds hp
end
section
variable {K : PySem.W.Frag} {G H₀ L : Hp} {ss : List Sl} {t : TA} {ds : List D} {pre : List D -> Prop} {R : List D -> List D -> Prop} {E : XK} {D0 : Ends}
theorem zp0 {i : Nat} (a : EvAF K G H₀ L ss t ds) (hp : pre ds) (h : ∀ rs, R ds rs -> ∀ p, Nx K G H₀ L D0.nx (ss.set i (.o p rs))) : Go K G H₀ L D0 ss (tAsg (zex (SpR K pre R) [] E t) (zgh i)) := fun F H σ S =>
 a F H σ _ S fun vs F1 H1 e1 r1 => ⟨F1, ds, e1.fh, by rw [List.append_nil]; exact r1, hp, fun rs hR p ws G' H' e2 h1 h2 h3 r => h rs hR p _ _ _ (S.newO (e1.trans e2) (e1.hh.free h1) h2 h3 r)⟩
end
end L2
namespace L2
open PySem PySem.W PySem.Spec PyProof.Rows
end L2
namespace L2
open PySem PySem.W PyProof.Rows L2T
section
variable {K : PySem.W.Frag} {G H₀ L : Hp} {ss : List Sl} {ta tb t : TE}
theorem zqq {i j : Int} (a : EvB K G H₀ L ss ta (.int i)) (b : EvB K G H₀ L ss tb (.int j)) : Ev K G H₀ L ss (tCB (fun xs H Q => ∃ i j, xs = [.int i, .int j] /\ Q (.int (if j > i then j else i)) H) (zbf ta (zbf tb tNil))) (.int (if j > i then j else i)) := fun F H σ Q S q =>
 a F H σ _ S fun v F1 H1 e1 r1 => b F1 H1 σ _ (S.ext2 e1) fun v2 F2 H2 e2 r2 => by
  rw [r1.of_int, r2.of_int]
  exact ⟨i, j, rfl, q _ F2 H2 (e1.trans e2) Rep.int⟩
theorem zpt {i j : Int} (a : EvB K G H₀ L ss ta (.int i)) (b : EvB K G H₀ L ss tb (.int j)) : Ev K G H₀ L ss (tCB (fun xs H Q => ∃ i j, xs = [.int i, .int j] /\ Q (.int (if j < i then j else i)) H) (zbf ta (zbf tb tNil))) (.int (if j < i then j else i)) := fun F H σ Q S q =>
 a F H σ _ S fun v F1 H1 e1 r1 => b F1 H1 σ _ (S.ext2 e1) fun v2 F2 H2 e2 r2 => by
  rw [r1.of_int, r2.of_int]
  exact ⟨i, j, rfl, q _ F2 H2 (e1.trans e2) Rep.int⟩
theorem zs2 {i j : Int} (a : EvB K G H₀ L ss ta (.int i)) (b : EvB K G H₀ L ss tb (.int j)) : Ev K G H₀ L ss (tOp (rI0 fun i j => .bl (decide (j < i))) ta tb) (.bl (decide (j < i))) := zjo (g:=fun i j => decide (j < i)) a b
theorem zso {i j : Int} (a : EvB K G H₀ L ss ta (.int i)) (b : EvB K G H₀ L ss tb (.int j)) : Ev K G H₀ L ss (tOp (rI0 fun i j => .bl (decide (i <= j))) ta tb) (.bl (decide (i <= j))) := zjo (g:=fun i j => decide (i <= j)) a b
end
end L2
namespace L2
open PySem PySem.W PySem.Spec PyProof.Rows
noncomputable def SpRD (K : PySem.W.Frag) (pre : List D -> Prop) (R : List D -> D -> Prop) : Sp := fun vs H Q _ => ∃ G ds, Same G H /\ Reps K G ds vs /\ pre ds /\ ∀ r, R ds r -> ∀ v G' H', Ext G H G' H' -> Rep K G' r v -> Q v H'
section
variable {K : PySem.W.Frag} {H : Hp} {vs : List V} {Q : VK} {X : XK} {N : List Str} {t : TS} {pre : List D -> Prop} {R : List D -> D -> Prop}
theorem zqe (h : SpRD K pre R vs H Q X) (hN : vs.length <= N.length) (body : ∀ G ds, pre ds -> (∀ r, R ds r -> RtD K G H Q r) -> Go K G H G { nx := fun _ H' => Q .non H', rt := Q } (slots N.length ds) t) : t { nx := fun _ H' => Q .non H', rt := Q } (start N vs) H := by
 obtain ⟨G, ds, sm, r, hp, q⟩ := h
 exact body G ds hp (fun rs hR v F H' e r => q rs hR v F H' e r) G H _ (zcu sm r hN)
theorem zky {n : Nat} (hpre : ∀ ds, pre ds -> ds.length = n) (h : SpRD K pre R vs H Q X) : vs.length = n := by
 obtain ⟨G, ds, sm, r, hp, q⟩ := h
 rw [<- r.length]; exact hpre ds hp
end
section
variable {K : PySem.W.Frag} {G H₀ L : Hp} {ss : List Sl} {t : TA} {ds : List D} {pre : List D -> Prop} {R : List D -> D -> Prop} {E : XK} {D0 : Ends} {ta tb te : TE} {i j : Int}
theorem zop {g : TG} (a : EvAF K G H₀ L ss t ds) (hp : pre ds) (h : ∀ r, R ds r -> ∃ ss', Tg K G H₀ L g r ss ss' /\ Nx K G H₀ L D0.nx ss') : Go K G H₀ L D0 ss (tAsg (zex (SpRD K pre R) [] E t) g) := fun F H σ S =>
 a F H σ _ S fun vs F1 H1 e1 r1 => ⟨F1, ds, e1.fh, by rw [List.append_nil]; exact r1, hp, fun r hR v G' H' e2 rr => by
  obtain ⟨ss', tg, nx⟩ := h r hR
  exact tg _ H' σ _ _ (S.ext2 (e1.trans e2)) rr fun σ' S' => nx _ H' σ' S'⟩
theorem zq2 (a : EvB K G H₀ L ss te (.int i)) : Ev K G H₀ L ss (tCB (fun xs H Q => ∃ x, xs = [.int x, .ty "int"] /\ Q (.bl true) H) (zbf te (zbf (tC (.ty "int")) tNil))) (.bl true) := fun F H σ Q S q =>
 a F H σ _ S fun v F1 H1 e1 r1 => ⟨i, by rw [r1.of_int], q _ _ _ e1 Rep.bl⟩
theorem zp3 (a : EvB K G H₀ L ss te (.int i)) : Ev K G H₀ L ss (tCB (fun xs H Q => ∃ x, xs = [.int x, .ty "bool"] /\ Q (.bl false) H) (zbf te (zbf (tC (.ty "bool")) tNil))) (.bl false) := fun F H σ Q S q =>
 a F H σ _ S fun v F1 H1 e1 r1 => ⟨i, by rw [r1.of_int], q _ _ _ e1 Rep.bl⟩
theorem zo8 (a : EvB K G H₀ L ss te (.int i)) : Ev K G H₀ L ss (tUn (rU fun i => .int (-i)) te) (.int (-i)) := fun F H σ Q S q =>
 a F H σ _ S fun v F1 H1 e1 r1 => ⟨i, by rw [r1.of_int], q _ _ _ e1 Rep.int⟩
theorem zq3 (a : EvB K G H₀ L ss ta (.int i)) (b : EvB K G H₀ L ss tb (.int j)) (h : CPow i j) : Ev K G H₀ L ss (tOp (rI CPow fun i j => .int (i ^ j.toNat)) ta tb) (.int (i ^ j.toNat)) := zl7 (C:=CPow) (g:=fun i j => i ^ j.toNat) a b h
end
end L2
namespace L2
open PySem PySem.W PySem.Spec PyProof.Rows PySem.Builtin PySem.Builtin.Str PySem.StrLaws
noncomputable def posL (z : Nat) : Nat -> List Nat -> List Nat
 | _, [] => []
 | a, x :: l => if x = z then a :: posL z (a + 1) l else posL z (a + 1) l
theorem zl9 (pre l : List Nat) (z : Nat) : subAt (T (pre ++ l)) (T [z]) pre.length = decide (l.head? = some z) := by
 rw [Bool.eq_iff_iff, decide_eq_true_eq]
 have h := subAt_one (T (pre ++ l)) z pre.length
 have e : (⟨#[z]⟩ : Str) = T [z] := rfl
 rw [e] at h
 have hc : (T (pre ++ l)).cps.toList = pre ++ l := zf7 _
 rw [hc] at h
 have hl : (T (pre ++ l)).length = pre.length + l.length := by rw [zb4, List.length_append]
 have hz : (T [z]).length = 1 := zb4 _
 have hg : (pre ++ l)[pre.length]? = l.head? := by
  rw [List.getElem?_append_right (Nat.le_refl _), Nat.sub_self]; cases l <;> rfl
 rw [hg, hl, hz] at h
 constructor
 ·intro hs
  by_cases hl0 : l = []
  ·subst hl0
   exfalso
   unfold subAt at hs
   simp [T, Str.length] at hs
  ·have : 1 <= l.length := by cases l with | nil => exact absurd rfl hl0 | cons _ _ => simp
   exact h.mp ⟨by lia, hs⟩
 ·intro hs
  exact (h.mpr hs).2
theorem ze3 (z : Nat) (n : Nat) : ∀ (l pre : List Nat) (free : Nat) (acc : Array Nat), free <= pre.length ->
  (forIn (List.range' pre.length (l.length + 1)) (acc, free) (occBody (T (pre ++ l)) (T [z]) (pre.length + l.length) n)).run.fst.toList = acc.toList ++ (posL z pre.length l).take (n - acc.size)
 | [], pre, free, acc, hf => by
  rw [List.length_nil, Nat.zero_add, List.range'_succ, List.range'_zero, List.forIn_cons]
  unfold occBody
  rw [if_neg (by rintro ⟨⟨_, h⟩, _⟩; rw [zb4] at h; simp at h; lia)]
  show acc.toList = _
  simp [posL]
 | x :: l, pre, free, acc, hf => by
  rw [List.length_cons, List.range'_succ, List.forIn_cons]
  have hs := zl9 pre (x :: l) z
  have e2 : pre ++ x :: l = (pre ++ [x]) ++ l := by simp
  have e3 : pre.length + (l.length + 1) = (pre ++ [x]).length + l.length := by simp; lia
  have e4 : pre.length + 1 = (pre ++ [x]).length := by simp
  have hz : (T [z]).length = 1 := zb4 _
  conv => lhs; unfold occBody
  by_cases hx : x = z
  ·have hs' : subAt (T (pre ++ x :: l)) (T [z]) pre.length = true := by rw [hs]; simp [hx]
   by_cases hn : acc.size < n
   ·rw [if_pos ⟨⟨⟨hn, hf⟩, by rw [hz]; lia⟩, hs'⟩]
    show (forIn (List.range' (pre.length + 1) (l.length + 1)) (acc.push pre.length, pre.length + (T [z]).length) (occBody (T (pre ++ x :: l)) (T [z]) (pre.length + (l.length + 1)) n)).run.fst.toList = _
    rw [e2, e3, e4, ze3 z n l (pre ++ [x]) _ _ (by rw [hz]; simp)]
    rw [posL, if_pos hx, Array.toList_push, Array.size_push, <- e4]
    rw [show n - acc.size = (n - (acc.size + 1)) + 1 by lia, List.take_succ_cons, List.append_assoc]
    rfl
   ·rw [if_neg (by rintro ⟨⟨⟨h, _⟩, _⟩, _⟩; exact hn h)]
    show (forIn (List.range' (pre.length + 1) (l.length + 1)) (acc, free) (occBody (T (pre ++ x :: l)) (T [z]) (pre.length + (l.length + 1)) n)).run.fst.toList = _
    rw [e2, e3, e4, ze3 z n l (pre ++ [x]) _ _ (by simp; lia), show n - acc.size = 0 by lia]
    simp
  ·have hs' : ¬ subAt (T (pre ++ x :: l)) (T [z]) pre.length = true := by rw [hs]; simp [hx]
   rw [if_neg (by rintro ⟨_, h⟩; exact hs' h)]
   show (forIn (List.range' (pre.length + 1) (l.length + 1)) (acc, free) (occBody (T (pre ++ x :: l)) (T [z]) (pre.length + (l.length + 1)) n)).run.fst.toList = _
   rw [e2, e3, e4, ze3 z n l (pre ++ [x]) _ _ (by simp; lia), posL, if_neg hx, <- e4]
theorem zp9 (z n : Nat) (l : List Nat) : occurrences (T l) (T [z]) 0 (T l).length n = (posL z 0 l).take n := by
 rw [occ_eq, zb4]
 have := ze3 z n l [] 0 #[] (Nat.le_refl _)
 simpa using this
noncomputable def zbh (z : Nat) : Nat -> List Nat -> List (List Nat)
 | 0, l => [l]
 | n + 1, l => match l.dropWhile (· != z) with
  | [] => [l]
  | _ :: b => l.takeWhile (· != z) :: zbh z n b
noncomputable def zki (s : Str) : Nat -> List Nat -> List Str
 | a, [] => [strSub s a s.length]
 | a, p :: r => strSub s a p :: zki s (p + 1) r
theorem zgv (s : Str) : ∀ (ps : List Nat) (a : Nat), (((a :: ps.map (· + 1)).zip (ps ++ [s.length])).map fun (i, j) => strSub s i j) = zki s a ps
 | [], a => rfl
 | p :: r, a => by
  show strSub s a p :: _ = strSub s a p :: _
  rw [<- zgv s r (p + 1)]
  rfl
theorem zg5 (a b c : List Nat) : strSub (T (a ++ b ++ c)) a.length (a.length + b.length) = T b := by
 unfold strSub T
 congr 1
 apply Array.toList_inj.mp
 simp [List.take_append]
theorem zko {z : Nat} : ∀ {l : List Nat} (a : Nat), z ∉ l -> posL z a l = []
 | [], _, _ => rfl
 | x :: l, a, h => by
  rw [posL, if_neg (fun e => h (by simp [e])), zko _ fun h' => h (List.mem_cons_of_mem _ h')]
theorem znh {z : Nat} : ∀ (l b : List Nat) (a : Nat), z ∉ l -> posL z a (l ++ z :: b) = (a + l.length) :: posL z (a + l.length + 1) b
 | [], b, a, _ => by simp [posL]
 | x :: l, b, a, h => by
  rw [List.cons_append, posL, if_neg (fun e => h (by simp [e])), znh l b (a + 1) fun h' => h (List.mem_cons_of_mem _ h')]
  rw [List.length_cons, show a + 1 + l.length = a + (l.length + 1) by lia]
theorem zct {z : Nat} : ∀ l : List Nat, (l.dropWhile (· != z) = [] /\ z ∉ l) \/ ∃ b, l.dropWhile (· != z) = z :: b /\ l = l.takeWhile (· != z) ++ z :: b /\ z ∉ l.takeWhile (· != z)
 | [] => .inl ⟨rfl, by simp⟩
 | x :: l => by
  by_cases hx : x = z
  ·subst hx; exact .inr ⟨l, by simp, by simp, by simp⟩
  ·have e1 : (x :: l).dropWhile (· != z) = l.dropWhile (· != z) := by simp [List.dropWhile_cons, hx]
   have e2 : (x :: l).takeWhile (· != z) = x :: l.takeWhile (· != z) := by simp [List.takeWhile_cons, hx]
   rw [e1, e2]
   rcases zct (z:=z) l with ⟨h1, h2⟩ | ⟨b, h1, h2, h3⟩
   ·exact .inl ⟨h1, by simp [h2]; exact fun e => hx e.symm⟩
   ·refine .inr ⟨b, h1, by rw [List.cons_append, <- h2], ?_⟩
    simp only [List.mem_cons, not_or]
    exact ⟨fun e => hx e.symm, h3⟩
theorem zgy (z : Nat) : ∀ (n : Nat) (pre l : List Nat), zki (T (pre ++ l)) pre.length ((posL z pre.length l).take n) = (zbh z n l).map T
 | 0, pre, l => by
  have := zg5 pre l []
  rw [List.append_nil] at this
  show [strSub (T (pre ++ l)) pre.length (T (pre ++ l)).length] = [T l]
  rw [zb4, List.length_append, this]
 | n + 1, pre, l => by
  rcases zct (z:=z) l with ⟨h1, h2⟩ | ⟨b, h1, h2, h3⟩
  ·rw [zko _ h2, zbh, h1]
   have := zg5 pre l []
   rw [List.append_nil] at this
   show [strSub (T (pre ++ l)) pre.length (T (pre ++ l)).length] = [T l]
   rw [zb4, List.length_append, this]
  ·have e : zbh z (n + 1) l = l.takeWhile (· != z) :: zbh z n b := by rw [zbh, h1]
   rw [e]
   generalize l.takeWhile (· != z) = a at h2 h3
   subst h2
   rw [znh _ _ _ h3, List.take_succ_cons]
   show strSub _ pre.length (pre.length + a.length) :: zki _ (pre.length + a.length + 1) _ = T a :: (zbh z n b).map T
   have e1 := zg5 pre a (z :: b)
   rw [List.append_assoc] at e1
   rw [e1]
   congr 1
   have := zgy z n (pre ++ a ++ [z]) b
   have e2 : pre ++ a ++ [z] ++ b = pre ++ (a ++ z :: b) := by simp
   have e3 : (pre ++ a ++ [z]).length = pre.length + a.length + 1 := by simp; lia
   rw [e2, e3] at this
   exact this
theorem zj9 (z n : Nat) (l : List Nat) : partsBetween (T l) (occurrences (T l) (T [z]) 0 (T l).length n) (T [z]).length = (zbh z n l).map T := by
 have e := zgv (T l) ((posL z 0 l).take n) 0
 have h := zgy z n [] l
 rw [zp9, zb4]
 unfold partsBetween
 exact e.trans h
theorem zcl (z : Nat) : ∀ n l, (zbh z n l).length <= n + 1
 | 0, l => Nat.le_refl _
 | n + 1, l => by
  unfold zbh
  split
  ·simp
  ·rw [List.length_cons]; have := zcl z n ‹_›; lia
end L2
namespace L2
open PySem PySem.W PySem.Spec PyProof.Rows PySem.Builtin PySem.Builtin.Str
theorem zpa {l : List Nat} (h : ∀ c ∈ l, c < 128) : PySem.Builtin.Str.strKind (T l) = 1 := by
 unfold PySem.Builtin.Str.strKind
 rw [if_pos]
 rw [Array.all_eq_true_iff_forall_mem]
 intro c hc
 have : c ∈ l := by simpa [T] using hc
 have := h c this
 simp; lia
theorem zje {z c : Nat} : ∀ {n : Nat} {l p : List Nat}, p ∈ zbh z n l -> c ∈ p -> c ∈ l
 | 0, l, p, h, hc => by rw [zbh, List.mem_singleton] at h; subst h; exact hc
 | n + 1, l, p, h, hc => by
  rcases zct (z:=z) l with ⟨h1, h2⟩ | ⟨b, h1, h2, h3⟩
  ·rw [zbh, h1] at h
   have h : p ∈ [l] := h
   rw [List.mem_singleton] at h; subst h; exact hc
  ·rw [zbh, h1] at h
   have h : p ∈ l.takeWhile (· != z) :: zbh z n b := h
   rw [h2]
   rcases List.mem_cons.mp h with h | h
   ·subst h; exact List.mem_append_left _ hc
   ·exact List.mem_append_right _ (List.mem_cons_of_mem _ (zje h hc))
section
variable {K : PySem.W.Frag} {G H₀ L : Hp} {ss : List Sl} {ta tb tc t1 t2 te : TE} {ds : List D}
theorem zrq {H : Hp} : ∀ {ls : List (List Nat)}, (∀ l ∈ ls, ∀ c ∈ l, c < 128) -> Reps K H (ls.map D.str) ((ls.map T).map V.str)
 | [], _ => Reps.nil
 | l :: ls, h => Reps.cons (Rep.str (h l List.mem_cons_self)) (zrq fun m hm => h m (List.mem_cons_of_mem _ hm))
end
end L2
namespace L2
open PySem PySem.W PySem.Spec PyProof.Rows
section
variable {α : Type} {K : PySem.W.Frag} {G H₀ L : Hp} {ss : List Sl} {ta tb tc te : TE} {t : TA} {ds : List D} {E : XK} {pre : α -> List D -> Prop} {res : α -> D}
theorem zse {c : Nat} {l : List Nat} (a : EvB K G H₀ L ss ta (.str [c])) (b : EvB K G H₀ L ss tb (.str l)) : Ev K G H₀ L ss (tOp (fun x y H Q => ∃ i j, x = .str i /\ y = .str j /\ Q (.bl (!(Builtin.Str.occurrences j i 0 j.length 1).isEmpty)) H) ta tb) (.bl (decide (c ∈ l))) := fun F H σ Q S q =>
 a F H σ _ S fun v F1 H1 e1 r1 => b F1 H1 σ _ (S.ext2 e1) fun v2 F2 H2 e2 r2 => by
  rw [r1.of_str, r2.of_str]
  refine ⟨T [c], T l, rfl, rfl, ?_⟩
  have := StrLaws.found_one (T l) c
  rw [zf7] at this
  rw [show T [c] = ⟨#[c]⟩ from rfl, this]
  exact q _ F2 H2 (e1.trans e2) Rep.bl
end
noncomputable def Itq (a c : Int) (n : Nat) : It := ⟨fun i _ => i < n, fun i H x H' => H' = H /\ x = .int (a + i * c), fun i _ => n <= i⟩
noncomputable def zrs (c : Int) (ta : TA) : TI := fun σ H R => ta σ H fun vs H1 => ∃ i j : Int, vs = [.int i, .int j, .int c] /\ (0 <= i /\ i < 2 ^ 30 /\ 0 <= j /\ j < 2 ^ 30) /\ R (Itq i c (Builtin.Range.rangeSize i j c).toNat) H1
theorem ziy {i j c : Int} (h : 0 <= i /\ i < 2 ^ 30 /\ 0 <= j /\ j < 2 ^ 30) (hc : 0 < c) : 0 <= Builtin.Range.rangeSize i j c /\ Builtin.Range.rangeSize i j c < 2 ^ 31 := by
 unfold Builtin.Range.rangeSize
 rw [if_pos hc]
 split
 ·have h1 : 0 <= (j - i - 1) / c := Int.ediv_nonneg (by lia) (by lia)
  have h2 : (j - i - 1) / c <= j - i - 1 := Int.ediv_le_self _ (by lia)
  omega
 ·lia
theorem zlp {i j c : Int} (h : 0 <= i /\ i < 2 ^ 30 /\ 0 <= j /\ j < 2 ^ 30) (hc : 0 < c) (hc2 : c < 2 ^ 30) : Builtin.Range.small i j c = true := by
 obtain ⟨h1, h2⟩ := ziy h hc
 unfold Builtin.Range.small Builtin.Range.rangeFitsLong
 generalize Builtin.Range.rangeSize i j c = z at h1 h2
 rw [if_pos hc]
 simp only [Bool.and_eq_true, Bool.or_eq_true, decide_eq_true_eq, beq_iff_eq]
 omega
section
variable {X : Cx} {e1 e2 e3 : Expr} {ta : TA} {p pos : Pos} {tg : Expr}
theorem zlz {c : Int} (hc : 0 < c) (hc2 : c < 2 ^ 30) (hg : Gl X "range") (hm : X.mg "range" = none) (ha : PA X [e1, e2, e3] ta) (hs : starEach [e1, e2, e3] X.env = [(false, eval e1 X.env), (false, eval e2 X.env), (false, eval e3 X.env)] := by rfl)
  (hs2 : starEach [e2, e3] X.env = [(false, eval e2 X.env), (false, eval e3 X.env)] := by rfl) : PI X tg (.Call (.Name "range" p) [e1, e2, e3] [] pos) (zrs c ta) := by
 intro pins s σ H R I h
 refine Call_ (zjc I hg hm boot_range (PyProof.Rows.callWith_type1 (thn (ha pos pins s σ H _ I h) fun us s1 hz9 => ?_) (by rw [hs, hs2]) (by rw [hs2]; rfl)))
 obtain ⟨vs, H1, I1, r1, q1⟩ := hz9
 obtain ⟨i, j, rfl, hb, q⟩ := q1
 obtain ⟨u, v, w', rfl, ⟨t1, rfl⟩, ⟨t2, rfl⟩, ⟨t3, rfl⟩⟩ := zsr r1
 refine call_range_3 (by lia) ?_ (.inl (PyProof.noPylong_small (by omega)))
 have I2 : Inv X pins σ H1 { s1 with heap := s1.heap.push { cls := .type "range", data := .fields #[.int i t1, .int j t2, .int c t3] } } := I1.kept (t':=s1.toks) fun b o e => Heap.get?_push_of_some _ e
 refine wpAny_pyIter_range (IsRange.new ..) (zlp hb hc hc2) ?_
 generalize hh2 : s1.heap.push { cls := .type "range", data := .fields #[.int i t1, .int j t2, .int c t3] } = h2 at I2
 have hsz := (ziy hb hc).1
 generalize hn : (Builtin.Range.rangeSize i j c).toNat = n at q
 have hn2 : Builtin.Range.rangeSize i j c = (n : Int) := by lia
 refine ⟨h2.objs.size, [h2.objs.size], _, Itq i c n, H1, rfl, I2.kept (t':=s1.toks) fun b o e => Heap.get?_push_of_some _ e,
  zfm (n:=n) (R:=fun k v => ∃ t, v = .int (i + k * c) t) (St:=fun k h => IsRangeIter h h2.objs.size (i + (k : Nat) * c) ((n : Int) - (k : Nat)) c) (fun A' hA => Walks.range hA _ i c _) (fun A' k s Q E st q => wpAny_pyIter_rangeiter st q)
   (fun k h st => ⟨_, _, _, st, rfl, rfl, by decide⟩) (fun k H g => g) (fun k H g => g) (fun k v H hk ⟨t, e⟩ => ⟨.int (i + k * c), ⟨t, e⟩, rfl, rfl⟩), ⟨Nat.zero_le _, ?_⟩, fun b hb => ?_, q⟩
 ·show IsRangeIter _ _ (i + ((0 : Nat) : Int) * c) (((n : Nat) : Int) - ((0 : Nat) : Int)) c
  have e1 : i + ((0 : Nat) : Int) * c = i := by simp
  have e2 : ((n : Nat) : Int) - ((0 : Nat) : Int) = Builtin.Range.rangeSize i j c := by rw [hn2]; simp
  rw [e1, e2]
  exact Heap.get?_push_size _ rfl
 ·have e : b = h2.objs.size := by simpa using hb
  subst e
  exact I2.fpOk (Nat.le_refl _) (I2.hok.fresh (Nat.le_refl _))
end
section
variable {K : PySem.W.Frag} {G H₀ L : Hp} {ss : List Sl} {D0 : Ends}
theorem znn {ta : TA} {x : Nat} {tb : TS} {m n c : Int} (I : Nat -> List Sl -> Prop) (a : EvA K G H₀ L ss ta [.int m, .int n, .int c]) (hb : 0 <= m /\ m < 2 ^ 30 /\ 0 <= n /\ n < 2 ^ 30) (h0 : I 0 ss)
  (hs : ∀ (k : Nat) ss, k < (Builtin.Range.rangeSize m n c).toNat -> I k ss -> ∀ N, (∀ ss, I (k + 1) ss -> Nx K G H₀ L N ss) -> Go K G H₀ L { D0 with nx := N, ct := N, bk := D0.nx } (ss.set x (.d (.int (m + (k : Int) * c)))) tb)
  (hd : ∀ ss, I (Builtin.Range.rangeSize m n c).toNat ss -> Nx K G H₀ L D0.nx ss) : Go K G H₀ L D0 ss (tFor (zrs c ta) (zgh x) tb) := fun F H σ S => by
 refine (a F H σ _ S fun vs F1 H1 e1 r1 => ?_)
 rw [Reps] at r1
 obtain ⟨v1, r, rfl, rx, r1⟩ := r1
 rw [Reps] at r1
 obtain ⟨v2, r, rfl, rx2, r1⟩ := r1
 rw [Reps] at r1
 obtain ⟨v3, r, rfl, rx3, r1⟩ := r1
 rw [Reps] at r1
 subst r1
 rw [rx.of_int, rx2.of_int, rx3.of_int]
 refine ⟨m, n, rfl, hb, fun i k σ' H' => k = (Builtin.Range.rangeSize m n c).toNat - i /\ i <= (Builtin.Range.rangeSize m n c).toNat /\ At K G H₀ L (I i) σ' H', ⟨_, rfl, Nat.zero_le _, ss, F1, S.ext2 e1, h0⟩, ?_⟩
 generalize (Builtin.Range.rangeSize m n c).toNat = z at hs hd
 rintro i k σ' H' ⟨rfl, hi, ss1, F2, S2, h2⟩
 by_cases hlt : i < z
 ·refine .inr ⟨hlt, fun σ'' H'' => At K G H₀ L (I (i + 1)) σ'' H'', fun σ'' H'' h => ⟨z - (i + 1), by lia, rfl, hlt, h⟩, fun x H'' y => ?_⟩
  obtain ⟨rfl, rfl⟩ := y
  exact hs i ss1 hlt h2 _ (fun ss h => zss h) F2 _ _ (S2.setD Rep.int)
 ·have e : i = z := by lia
  subst e
  exact .inl ⟨Nat.le_refl _, hd ss1 h2 F2 H' σ' S2⟩
end
section
variable {K : PySem.W.Frag} {G H₀ L : Hp} {ss : List Sl}
theorem zl0 (l : List Nat) (f : Nat -> D) {tl : TE} {g : TG} {te : TE} {nt : Nat} {cs : List Nat} (a : EvB K G H₀ L ss tl (.str l)) (hk : GK nt g) (hc : cs.Nodup) (hz : l.length < sizeLine)
  (hs : ∀ c ∈ l, ∃ ss', Tg K G H₀ L g (.str [c]) (lcSl nt cs ss) ss' /\ Ev K G H₀ L ss' te (f c)) :
  EvO K G H₀ L ss (tLC nt cs (iStr tl) g zf8 te) (l.map f) := by
 have := zg9 (p:=fun _ => true) (f:=fun i => f (l.getD i 0)) (tt:=zf8) (te:=te) (zps a) hk hc hz (fun i hi => by
  have hm : l.getD i 0 ∈ l := by rw [List.getD_eq_getElem?_getD, List.getElem?_eq_getElem hi]; exact List.getElem_mem hi
  obtain ⟨ss', h1, h2⟩ := hs _ hm
  exact ⟨ss', h1, zk6, fun _ => h2⟩)
 have e := zhj l 0 (fun _ => true) f
 rw [show l.filter (fun _ => true) = l from List.filter_eq_self.mpr (by simp)] at e
 rw [<- e]; exact this
end
end L2
namespace L2
open PySem PySem.W PySem.Spec PyProof.Rows
noncomputable def D.isK : D -> Bool
 | .int _ => true | .str _ => true | _ => false
noncomputable def D.key : D -> Key
 | .int i => .inl i | .str l => .inr (T l) | _ => .inl 0
noncomputable abbrev DD := List (D × D)
inductive Dks (K : PySem.W.Frag) (F : Hp) : DD -> List (Key × V) -> Prop
 | nil : Dks K F [] []
 | cons {k d : D} {v : V} {kvs : DD} {xs : List (Key × V)} (hk : k.isK = true) (hr : Rep K F k (kV k.key)) (r : Rep K F d v) (t : Dks K F kvs xs) : Dks K F ((k, d) :: kvs) ((k.key, v) :: xs)
end L2
namespace L2
open PySem PySem.Spec PyProof.Rows
end L2
namespace L2
open PySem PySem.W PySem.Spec PyProof.Rows
noncomputable abbrev KQ := List (D × Addr × List D)
end L2
namespace L2
open PySem PySem.Spec PyProof.Rows
end L2
namespace L2
open PySem PySem.W PySem.Spec PyProof.Rows
end L2
namespace L2
open PySem PySem.Spec PyProof.Rows
end L2
namespace L2
open PySem PySem.Spec PyProof.Rows
open AutoSeq1 (wpAny_loadPart')
theorem zgg (a b : Value) : checkTypeCall "enumerate" ⟨[a], [("start", b)]⟩ = pure () := by kernel_rfl
theorem zhi (a b : Value) : checkBuiltinCall "enumerate.__new__" ⟨[.type "enumerate", a], [("start", b)]⟩ = pure () := by kernel_rfl
theorem zjy (l : Addr) (items : Array Value) (n : Nat) (dct : Option Addr) (sl : Array (Option Value)) (t : Tok) :
  Meets (Builtin.«enumerate.__new__» ⟨[.type "enumerate", .ref l], [("start", .int 1 t)]⟩) (fun _ R s => s.heap.get? l = some { cls := .type "list", dict := dct, data := .seq items n, slots := sl } /\
   R (.ok (.ret (.ref (s.heap.push { cls := .type "list_iterator", data := .fields #[.ref l, .int 0 0] }).objs.size)))
    { s with heap := (s.heap.push { cls := .type "list_iterator", data := .fields #[.ref l, .int 0 0] }).push { cls := .type "enumerate", data := .fields #[.none, .bool false, .ref s.heap.objs.size, rawInt 1, .none, .none] } }) :=
 .of_wp fun prog w A R s h => by
  obtain ⟨hp, g, d, tk, os⟩ := s
  obtain ⟨hl, h⟩ := h
  have hsub := sub_enumerate; have hL : Heap.IsList (Shared.heap ⟨hp, g, d, tk, os⟩) l items := ⟨_, hl, rfl, n, rfl⟩
  wp_walk using wpAny_loadPart' hl
  refine wpAny_stack_any fun st => wpAny_pure ?_
  split
  ·rename_i c _ _ _ _ _
   cases (c == Value.type "enumerate") <;> (wp_walk using wpAny_loadPart' hl, wpAny_pyIter_list hL; exact ⟨_, rfl, h⟩)
  ·wp_walk using wpAny_loadPart' hl, wpAny_pyIter_list hL
   exact ⟨_, rfl, h⟩
noncomputable abbrev zla (h : Heap) (l : Addr) : Heap := (h.push { cls := .type "list_iterator", data := .fields #[.ref l, .int 0 0] }).push { cls := .type "enumerate", data := .fields #[.none, .bool false, .ref h.objs.size, rawInt 1, .none, .none] }
theorem zgm (a b c : Value) : argsOk "object.__init__" ⟨[a, b], [("start", c)]⟩ := by unfold argsOk; kernel_rfl
theorem zlu (obj a c : Value) : Meets (Builtin.«object.__init__» ⟨[obj, a], [("start", c)]⟩) (fun _ R s => s.TypeIs obj "enumerate" /\ R (.ok (.ret .none)) s) := by
 refine Meets.of_wp fun prog w A R s hs => ?_
 obtain ⟨hT, hq⟩ := hs
 have hl := F.called_enumerate.init.lookup; have hm := F.called_enumerate.made
 have hne : (some "enumerate.__new__" != some "object.__new__") = true := by decide
 repeat (any_goals (first | assumption | wp_step))
 exact ⟨_, rfl, hq⟩
section
variable {prog : Program} {w : World} {A : Around} {E : Value -> Shared -> Prop} {s : Shared}
theorem zno {l : Addr} {items : Array Value} {t : Tok} {Q : Value -> Shared -> Prop} (hL : s.heap.IsList l items)
  (h : ∀ h', IsEnum h' (s.heap.objs.size + 1) s.heap.objs.size 1 .none -> h'.IsListIter s.heap.objs.size l 0 -> h'.objs.size = s.heap.objs.size + 2 ->
   (∀ b o, s.heap.get? b = some o -> h'.get? b = some o) -> Q (.ref (s.heap.objs.size + 1)) { s with heap := h' }) :
  wpAny (model prog w) A (call (.type "enumerate") [.ref l] [("start", .int 1 t)]) Q E s := by
 obtain ⟨⟨c, dct, dt, sl⟩, hl, hc, n, hd⟩ := hL
 replace hc : c = .type "list" := hc; replace hd : dt = .seq items n := hd
 subst hc hd
 have ft := F.called_enumerate
 obtain ⟨c, tl, hmro⟩ := ft.mro
 have hmade := ft.made; have hsub := ft.sub; have hct := zgg (.ref l) (.int 1 t)
 refine wpAny_call (codeAny_of_tree ?_)
 show wpAny _ _ (callAny (.type "enumerate") _) _ _ _
 refine wpAny_pure ⟨Code.quiet_builtin _ (by decide +kernel), codeAny_builtin F.entry_type_call ?_⟩
 rw [Around.under_plain (weight_type_call_type "enumerate" [.ref l] _) (units_type_call_type "enumerate" [.ref l] _)]
 have h1 := ft.notType; have h2 := ft.canCreate
 repeat (any_goals (first | assumption | wp_step))
 have hz : (s.heap.push { cls := .type "list_iterator", data := .fields #[.ref l, .int 0 0] }).objs.size = s.heap.objs.size + 1 := Heap.size_push ..
 have he : IsEnum ((s.heap.push { cls := .type "list_iterator", data := .fields #[.ref l, .int 0 0] }).push
   { cls := .type "enumerate", data := .fields #[.none, .bool false, .ref s.heap.objs.size, rawInt 1, .none, .none] }) (s.heap.objs.size + 1) s.heap.objs.size 1 .none := by
  have := Heap.get?_push_size (s.heap.push { cls := .type "list_iterator", data := .fields #[.ref l, .int 0 0] })
   (o:={ cls := .type "enumerate", data := .fields #[.none, .bool false, .ref s.heap.objs.size, rawInt 1, .none, .none] }) rfl
  rw [hz] at this; exact this
 have hu := h _ he ⟨_, Heap.get?_push_of_some _ (Heap.get?_push_size _ rfl), rfl, rfl⟩ (by rw [Heap.size_push, hz]) fun b o x => Heap.get?_push_of_some _ (Heap.get?_push_of_some _ x)
 have hT : Shared.TypeIs { s with heap := zla s.heap l } (.ref (s.heap.objs.size + 1)) "enumerate" := ⟨_, he, rfl⟩
 have hm := zjy l items n dct sl t prog w A.in1 (fun r s' => r = .ok (.ret (.ref (s.heap.objs.size + 1))) /\ s' = { s with heap := zla s.heap l }) s ⟨hl, by rw [hz], rfl⟩
 refine codeAny_mono (codeAny_call_builtin (R:=fun r s' => r = .ok (.ret (.ref (s.heap.objs.size + 1))) /\ s' = { s with heap := zla s.heap l }) ft.plain F.entry_enumerate_new (wpAny_of_eq (zhi _ _) hm)) fun r s₁ hr => ?_
 obtain ⟨rfl, rfl⟩ := hr
 have hli := ft.init.lookup; have hbi := ft.init.bind (.ref (s.heap.objs.size + 1))
 show wpAny _ _ _ _ _ _
 repeat (any_goals (first | assumption | wp_step))
 have hm2 := zlu (.ref (s.heap.objs.size + 1)) (.ref l) (.int 1 t) prog w A.in1 (fun r s' => r = .ok (.ret .none) /\ s' = { s with heap := zla s.heap l }) { s with heap := zla s.heap l } ⟨hT, rfl, rfl⟩
 refine codeAny_mono (codeAny_call_builtin (R:=fun r s' => r = .ok (.ret .none) /\ s' = { s with heap := zla s.heap l }) ft.init.plain F.entry_object_init (ft.init.check _ _ _ _ _ _ _ _ hT (zgm _ _ _) hm2)) fun r₂ s₂ hr₂ => ?_
 obtain ⟨rfl, rfl⟩ := hr₂
 show wpAny _ _ _ _ _ _
 repeat (any_goals (first | assumption | wp_step))
end
end L2
namespace L2
open PySem PySem.Spec PyProof.Rows
theorem zfo {prog : Program} {w : World} {A : Around} {it : Addr} {fp : List Addr} {n : Nat} {P : Nat -> Value -> Prop} {St : Nat -> Heap -> Prop} (D : Draws prog w A it fp n P St) :
  Draws prog w A it fp (n + 1) (fun i v => P (i - 1) v) (fun i h => 1 <= i /\ St (i - 1) h) where
 live := fun i h st => D.live _ _ st.2
 frame := fun i h h' st k => ⟨st.1, D.frame _ _ _ st.2 k⟩
 item := fun i s Q E hi st hQ => D.item (i - 1) s Q E (by omega) st.2 fun x h' tk a b c => hQ x h' tk a ⟨by lia, by rw [show i + 1 - 1 = (i - 1) + 1 by lia]; exact b⟩ c
 done := fun s Q E st hE => D.done s Q E (by simpa using st.2) hE
noncomputable def Ite1 (K : PySem.W.Frag) (a : Addr) : It :=
 ⟨fun i H => ∃ xs x, SqL K H a xs /\ xs[i]? = some x, fun i H x H' => ∃ T0 vs, x = .ref T0 /\ H T0 = none /\ H' = upd H T0 (.tup vs) /\ ∀ xs, SqL K H a xs -> ∃ y, xs[i]? = some y /\ vs = [.int ((i + 1 : Nat) : Int), y], fun i H => ∃ xs, SqL K H a xs /\ xs.length = i⟩
theorem zlt {P : Program} {w : World} {K : PySem.W.Frag} {elts : List Expr} {kk : Nat} {tp : Pos} (a it e : Addr) (hae : a ≠ e) (hai : a ≠ it) (hei : e ≠ it) :
  Turn P w K (.Tuple elts kk tp) (Ite1 K a) [e, it] e (fun i h => (∃ old, IsEnum h e it ((i + 1 : Nat) : Int) old) /\ h.IsListIter it a i) where
 mem := by simp
 obj := fun i h st b hb => by
  obtain ⟨⟨old, ho⟩, oi, hoi, _, hdi⟩ := st
  rcases List.mem_cons.mp hb with rfl | hb
  ·exact ⟨_, ho, fun v z => by cases z⟩
  ·rw [List.mem_singleton.mp hb]
   exact ⟨oi, hoi, fun v z => by rw [hdi] at z; cases z⟩
 keep := fun i h h' st k => ⟨let ⟨old, ho⟩ := st.1; ⟨old, k e (by simp) _ ho⟩, st.2.at fun o x => k it (by simp) o x⟩
 item := by
  intro X hP hw hK hc i pins s σ H E I hf st hg
  subst hP hw hK
  obtain ⟨xs, x, hq, hx⟩ := hg
  obtain ⟨its, rv, p, hz⟩ := I.list hq
  obtain ⟨u, hu, ru⟩ := rv.get hx
  have hil : i < its.length := (List.getElem?_eq_some_iff.mp hu).1
  have W0 := WalksT.enumerateD (A:=X.A) (zfo (Draws.list (prog:=X.prog) (w:=X.w) (A:=X.A.in1) (show X.A.in1.handled = none from I.ok.hd hc) it a hai its.toArray)) e hei (by simp [hei, Ne.symm hae]) (by simp)
  refine W0.item (i + 1) s _ _ (by simpa using hil) ⟨st.1, Nat.le_add_left _ _, st.2, p.isList⟩ fun T0 vals h1 tk hp hle ht mid kk => ?_
  obtain ⟨t, v, hv, rfl⟩ := hp
  have hv : its[i]? = some v := by simpa using hv
  rw [hu] at hv; cases hv
  have fresh : H T0 = none := I.hok.fresh hle
  have I1 : Inv X pins σ (upd H T0 (.tup [.int ((i + 1 : Nat) : Int), x])) { s with heap := h1, toks := tk } := I.turnsT (wr:=[e, it]) hf kk hle ht (.cons ⟨t, rfl⟩ (.cons ru .nil)) (by rw [sizeLine_eq]; simp)
  refine ⟨.ref T0, rfl, W0.go elts _ tp (i + 1) T0 _ _ _ mid fun h2 st2 k2 => ?_⟩
  have hlt : ∀ b ∈ [e, it], b ≠ T0 := fun b hb z => by
   obtain ⟨⟨old, ho⟩, oi, hoi, _, hdi⟩ := st
   rcases List.mem_cons.mp hb with rfl | hb
   ·exact absurd (Nat.lt_of_lt_of_le (Heap.lt_size ho) (z ▸ hle)) (Nat.lt_irrefl _)
   ·rw [List.mem_singleton.mp hb] at z
    exact absurd (Nat.lt_of_lt_of_le (Heap.lt_size hoi) (z ▸ hle)) (Nat.lt_irrefl _)
  have hf1 : ∀ b ∈ [e, it], FpOk X pins (upd H T0 (.tup [.int ((i + 1 : Nat) : Int), x])) b := fun b hb => ⟨by rw [zaj (hlt b hb)]; exact (hf b hb).1, (hf b hb).2⟩
  exact ⟨.ref T0, _, I1.turns (t':=tk) hf1 k2, rfl, ⟨T0, _, rfl, fresh, rfl, fun ys hy => ⟨x, by rw [I.list_inj hy hq]; exact hx, rfl⟩⟩, ⟨st2.1, st2.2.2.1⟩, fun b hb => by rw [zaj (hlt b hb)]; exact (hf b hb).1⟩
 done := by
  intro X hP hw hK hc i pins s σ H E I hf st hg
  subst hP hw hK
  obtain ⟨xs, hq, hx⟩ := hg
  obtain ⟨its, rv, p, hz⟩ := I.list hq
  have hl := rv.length
  have hs : its.toArray.size = i := by simp; lia
  have W0 := WalksT.enumerateD (A:=X.A) (zfo (Draws.list (prog:=X.prog) (w:=X.w) (A:=X.A.in1) (show X.A.in1.handled = none from I.ok.hd hc) it a hai its.toArray)) e hei (by simp [hei, Ne.symm hae]) (by simp)
  rw [hs] at W0
  exact W0.done s _ _ ⟨st.1, Nat.le_add_left _ _, st.2, p.isList⟩ fun h1 tk kk => ⟨rfl, I.turns (wr:=[e, it]) hf kk⟩
 self := fun A i s Q E st h => wpAny_pyIter_enum st.1.choose_spec h
section
variable {M : Model} {A : Around} {E : Value -> Shared -> Prop} {s : Shared} {env : Env}
theorem zf3 {pos : Pos} {T : String} {e : Expr} {rest : List Expr} {kws : List Keyword} {Q : Value -> Shared -> Prop}
  (h : wpAny M A (spliced (backTo pos (starEach (e :: rest) env))) (fun vs s₁ => wpAny M A (evalAll ((backToKw pos (keywordEach kws env)).map (·.2)))
   (fun kvs s₂ => wpAny M A (call (.type T) vs (((backToKw pos (keywordEach kws env)).filterMap (·.1)).zip kvs)) Q E s₂) E s₁) E s)
  (he : backTo pos (starEach (e :: rest) env) = (false, eval e env) :: backTo pos (starEach rest env)) (hplain : (backTo pos (starEach (e :: rest) env)).any (·.1) = false)
  (hall : (backToKw pos (keywordEach kws env)).all (·.1.isSome) = true) (hkw : (backToKw pos (keywordEach kws env)).any (·.1.isNone) = false) :
  wpAny M A (callWith pos (.type T) [] (backTo pos (starEach (e :: rest) env)) (backToKw pos (keywordEach kws env))) Q E s := by
 have h2 : wpAny M A (evalArgs (.type T) true (backTo pos (starEach (e :: rest) env)) (backToKw pos (keywordEach kws env))) (fun a s₁ => wpAny M A (call (.type T) ([] ++ a.pos) a.kw) Q E s₁) E s := by
  rw [he] at h ⊢
  exact evalArgs_kwB hall h
 unfold callWith
 refine wpAny_bind (wpAny_holding (wpAny_mono h2 (fun a s₁ h₁ => wpAny_bind (wpAny_standAt ?_)) fun _ _ x => x))
 simp only [hplain, hkw, Bool.or_false]; refine wpAny_bind (wpAny_pure ?_)
 exact wpAny_bind (wpAny_mono h₁ (fun r s₂ hr => wpAny_bind (wpAny_holding (wpAny_point (wpAny_pure hr)))) fun _ _ x => x)
end
section
variable {X : Cx} {e ke : Expr} {ta : TA} {elts : List Expr} {kk : Nat} {tp p pos kp : Pos}
noncomputable def iEn1 (K : PySem.W.Frag) (ta : TA) : TI := fun σ H R => ta σ H fun vs H1 => ∃ a, vs = [.ref a] /\ (∃ xs, SqL K H1 a xs) /\ R (Ite1 K a) H1
theorem zoo (hg : Gl X "enumerate") (hm : X.mg "enumerate" = none) (hA : PA X [e] ta) (hk : PE X ke (tC (.int 1))) (hs : starEach [e] X.env = [(false, eval e X.env)] := by rfl) :
  PI X (.Tuple elts kk tp) (.Call (.Name "enumerate" p) [e] [⟨some "start", ke, kp⟩] pos) (iEn1 X.K ta) := by
 intro pins s σ H R I h
 refine wpAny_Call_Name_kw (zjc I hg hm boot_enumerate ?_)
 refine zf3 (rest:=[]) (thn (hA pos pins s σ H _ I h) fun us s1 hz9 => ?_) (by rw [hs]; rfl) (by rw [hs]; rfl) rfl rfl
 obtain ⟨vs, H1, I1, r1, q1⟩ := hz9
 obtain ⟨a, rfl, hl, q⟩ := q1
 refine thn (zp7 hk zrl pos pins s1 σ H1 (fun zs H2 => zs = [.int 1] /\ H2 = H1) I1 ⟨rfl, rfl⟩) fun ws s2 hz9 => ?_
 obtain ⟨zs, H2, I2, r2, e2, e3⟩ := hz9
 subst e2 e3
 obtain ⟨w', rfl, rw'⟩ := zjr r2
 obtain ⟨t, rfl⟩ := rw'
 obtain ⟨u, rfl, ru⟩ := zjr r1
 cases ru
 obtain ⟨xs, hq⟩ := hl
 obtain ⟨its, rv, p, hz⟩ := I2.list hq
 refine zno p.isList fun h1 hen hit hsz hk => ?_
 have I3 : Inv X pins σ H2 { s2 with heap := h1 } := I2.kept (t':=s2.toks) hk
 refine wpAny_pyIter_enum hen ?_
 have hlt : a < s2.heap.objs.size := by obtain ⟨o, ho, _⟩ := p.isList; exact Heap.lt_size ho
 refine ⟨s2.heap.objs.size + 1, [s2.heap.objs.size + 1, s2.heap.objs.size], _, _, H2, rfl, I3, zlt a s2.heap.objs.size (s2.heap.objs.size + 1) (Nat.ne_of_lt (Nat.lt_succ_of_lt hlt)) (Nat.ne_of_lt hlt) (Nat.succ_ne_self _), ⟨⟨_, hen⟩, hit⟩, fun b hb => ?_, q⟩
 rcases List.mem_cons.mp hb with rfl | hb
 ·exact I2.fpOk (Nat.le_succ _) (I2.hok.fresh (Nat.le_succ _))
 ·rw [List.mem_singleton.mp hb]
  exact I2.fpOk (Nat.le_refl _) (I2.hok.fresh (Nat.le_refl _))
end
end L2
namespace L2
open PySem PySem.Spec PyProof.Rows PySem.Builtin PySem.Builtin.Str
section
variable {X : Cx}
noncomputable def zju : V -> List V -> Hp -> VK -> Prop := fun x vs H Q => ∃ (l : List Nat) (z : Nat), x = .str (T l) /\ vs = [.str (T [z])] /\ Q (.bl (decide (l.head? = some z))) H
theorem zof (l : List Nat) (z : Nat) : Txt.startswith (T l) (T [z]) = decide (l.head? = some z) := by
 have h := zl9 [] l z
 rw [List.nil_append, List.length_nil] at h
 unfold Txt.startswith
 rw [h, zb4, zb4]
 cases l with
 | nil => rfl
 | cons x l => simp
theorem zhk : MtR X "str.startswith" zju := by
 intro pins s σ H x xs v us Q I rx rs h
 obtain ⟨l, z, rfl, rfl, q⟩ := h
 obtain ⟨t, rfl⟩ := rx
 obtain ⟨u, rfl, ru⟩ := Vals.one rs
 obtain ⟨u, rfl⟩ := ru
 refine SC.startswith ⟨.bl (decide (l.head? = some z)), H, I, ?_, q⟩
 rw [zof]; rfl
end
noncomputable def splitL (z : Nat) (l : List Nat) : List (List Nat) := zbh z (l.length + 1) l
theorem zon {z : Nat} {l : List Nat} (hz : z < 128) (hl : ∀ c ∈ l, c < 128) : Txt.split (T l) (T [z]) = (splitL z l).map T := by
 have hp := zj9 z (l.length + 1) l
 have k1 : strKind (T l) = 1 := zpa hl
 have k2 : strKind (T [z]) = 1 := zpa (by intro c hc; rw [List.mem_singleton.mp hc]; exact hz)
 unfold Txt.split splitL
 rw [zb4] at hp ⊢
 split
 ·rename_i h
  rw [k1, k2, zb4] at h
  simp at h
  subst h
  rfl
 ·split
  ·rename_i h2 h
   rw [<- hp]
   have e : occurrences (T l) (T [z]) 0 l.length (l.length + 1) = [] := List.isEmpty_iff.mp h
   rw [e]
   have := zg5 [] l []
   simp only [List.nil_append, List.append_nil, List.length_nil, Nat.zero_add] at this
   show [T l] = [strSub (T l) 0 (T l).length]
   rw [zb4, this]
  ·exact hp
theorem zlg {z n : Nat} : ∀ {l : List Nat}, z ∉ l -> zbh z n l = [l] := fun {l} h => by
 cases n with
 | zero => rfl
 | succ n =>
  rcases zct (z:=z) l with ⟨h1, _⟩ | ⟨b, _, h2, _⟩
  ·rw [zbh, h1]
  ·exact absurd (by rw [h2]; simp) h
theorem zj0 {z n : Nat} {a b : List Nat} (ha : z ∉ a) : zbh z (n + 1) (a ++ z :: b) = a :: zbh z n b := by
 have tw : (a ++ z :: b).dropWhile (· != z) = z :: b /\ (a ++ z :: b).takeWhile (· != z) = a := by
  induction a with
  | nil => simp
  | cons w x ih =>
   have hw : w ≠ z := fun e => ha (by simp [e])
   have := ih fun h => ha (List.mem_cons_of_mem _ h)
   rw [List.cons_append, List.dropWhile_cons, List.takeWhile_cons]
   simp [hw, this]
 rw [zbh, tw.1, tw.2]
theorem zdm {z : Nat} : ∀ {ps : List (List Nat)} {n : Nat}, ps ≠ [] -> (∀ p ∈ ps, z ∉ p) -> ps.length <= n + 1 -> zbh z n (glue [z] ps) = ps
 | [], _, h, _, _ => absurd rfl h
 | [p], n, _, hz, _ => by
  have : glue [z] [p] = p := rfl
  rw [this]; exact zlg (hz p (by simp))
 | p :: q :: r, 0, _, _, hn => by simp at hn
 | p :: q :: r, n + 1, _, hz, hn => by
  have : glue [z] (p :: q :: r) = p ++ z :: glue [z] (q :: r) := by simp [glue]
  rw [this, zj0 (hz p (by simp)), zdm (by simp) (fun x hx => hz x (List.mem_cons_of_mem _ hx)) (by simpa using hn)]
section
variable {K : PySem.W.Frag} {G H₀ L : Hp} {ss : List Sl} {ta tb tc t t1 t2 te : TE} {ds : List D} {E : Ends}
theorem zmt {l : List Nat} {z : Nat} (a : EvB K G H₀ L ss ta (.str l)) (b : EvB K G H₀ L ss t (.str [z])) : Ev K G H₀ L ss (tBM K "str" zju ta (zbf t tNil)) (.bl (decide (l.head? = some z))) := fun F H σ Q S q =>
 a F H σ _ S fun v F1 H1 e1 r1 => by
  rw [r1.of_str]
  refine ⟨rfl, b F1 H1 σ _ (S.ext2 e1) fun v2 F2 H2 e2 r2 => ?_⟩
  exact ⟨l, z, rfl, by rw [r2.of_str], q _ _ _ (e1.trans e2) Rep.bl⟩
theorem zgz {l : List Nat} {z : Nat} (a : EvB K G H₀ L ss ta (.str l)) (b : EvB K G H₀ L ss t (.str [z])) (hl : l.length + 2 <= sizeLine) : EvO K G H₀ L ss (tBM K "str" zpf ta (zbf t tNil)) ((splitL z l).map D.str) := fun F H σ Q S q =>
 a F H σ _ S fun v F1 H1 e1 r1 => by
  rw [r1.of_str]
  refine ⟨rfl, b F1 H1 σ _ (S.ext2 e1) fun v2 F2 H2 e2 r2 => ?_⟩
  have ha := r1.asc
  have hz := r2.asc
  rw [r2.of_str]
  refine ⟨T l, T [z], rfl, rfl, by rw [zb4]; rfl, by rw [zb4]; exact hl, fun p hp => ?_⟩
  rw [zon (hz z (by simp)) ha]
  have e := e1.trans e2
  exact q p _ F2 _ (e.newO hp) (e.hh.free hp) (e.fh.free hp) zah (zrq fun m hm c hc => ha c (zje hm hc))
theorem zmx {tl : TE} (a : Ev K G H₀ L ss tl (.lst ds)) : EvI K G H₀ L ss (iEn1 K (zbf tl tNil)) ds.length fun i => .tup [.int ((i + 1 : Nat) : Int), ds.getD i .non] := fun F H σ R S q =>
 a F H σ _ S fun v F1 H1 e1 r1 => by
  obtain ⟨p, vs, rfl, sq, rs⟩ := r1.of_lst
  refine ⟨p, rfl, ⟨vs, SqL.same e1.fh sq⟩, q F1 H1 _ e1 fun F2 H2 f1 h1 fh => ?_⟩
  have rp : Rep K F2 (.lst ds) (.ref p) := r1.mono f1
  obtain ⟨ws, sq2, rs2⟩ := rp.itl fh
  have hlen := rs2.length
  refine ⟨fun i hi => ⟨⟨ws, ws[i]'(by lia), sq2, List.getElem?_eq_getElem _⟩, fun x H3 y => ?_⟩, ⟨ws, sq2, by lia⟩⟩
  obtain ⟨T0, us, rfl, hf, rfl, y⟩ := y
  obtain ⟨w, hx, rfl⟩ := y ws sq2
  obtain ⟨dx, hdx, rx⟩ := rs2.get hx
  have e3 : Ext F2 H2 (upd F2 T0 (.tup [.int ((i + 1 : Nat) : Int), w])) (upd H2 T0 (.tup [.int ((i + 1 : Nat) : Int), w])) := (Ext.refl fh).newF hf
  refine ⟨_, e3, ?_⟩
  show Rep K _ (.tup [.int ((i + 1 : Nat) : Int), ds.getD i .non]) _
  rw [List.getD_eq_getElem?_getD, hdx]
  exact Rep.tup (SqT.of zah) (Reps.cons Rep.int (Reps.cons (rx.mono e3.gf) Reps.nil))
end
end L2
namespace L2
open PySem PySem.W PySem.Spec PyProof.Rows
structure ITell (K : PySem.W.Frag) (C : Addr) : Prop where
 ha : findIn K (.ref C) "__class__" = some (some (.builtin "object.__class__"))
 hn : specialIn K (.builtin "object.__class__") "__get__" = some (some (.builtin "getset_descriptor.__get__"))
 tk : takesIn K (.builtin "object.__class__") = some true
 hm : mroIn K C (.type "object") = some true
noncomputable def zen (C : Addr) (n1 n2 : Str) : Sp := fun vs H Q _ => ∃ (x dx : Addr) (u v : V), vs = [.ref x, u, v] /\ H x = some (.ins C dx []) /\ H dx = some (.own x) /\ Q .non (upd H x (.ins C dx [(n1, u), (n2, v)]))
section
variable {K : PySem.W.Frag} {G H₀ L : Hp} {ss : List Sl} {i : Nat} {x C dx : Addr} {fs : List (Str × V)} {d : D} {ds : List D} {t : TA} {E : XK} {D0 : Ends} {pre : List (Str × V) -> List D -> Prop} {res : List (Str × V) -> List D -> D}
theorem upd2 {H : Hp} {a : Addr} {o u : HO} : upd (upd H a o) a u = upd H a u := by
 funext b
 by_cases h : b = a
 ·subst h; rw [zah, zah]
 ·rw [zaj h, zaj h, zaj h]
end
end L2
namespace L2
open PySem PySem.W PySem.Spec PyProof.Rows
end L2
namespace L2
open PySem PySem.Spec PyProof.Rows
end L2
namespace L2
open PySem PySem.W PySem.Spec PyProof.Rows
section
variable {P : Program} {w : World} {fs : List Addr} {H H' : Hp} {h h2 h3 B : Heap}
theorem Un.fly (U : Un fs [] H H' h h2) (st2 : B.StaysIn h2) (st3 : B.StaysIn h3) (c1 : ∀ b o, h.get? b = some o -> b ∉ fs -> ∃ o', B.get? b = some o') (up : h2.UpToSlots h3)
  (ff : ∀ b ∈ fs, ∃ o, h2.get? b = some o /\ ∀ vs, o.data ≠ .fields vs) : Un fs [] H H' h h3 where
 keep := fun b o e n hb hx => by
  obtain ⟨o', q⟩ := c1 b o e hb
  have q1 := U.keep b o e n hb hx
  have q2 := st2 b o' q
  rw [q1] at q2; cases q2
  exact st3 b _ q
 slot := fun b o e n hb hx => by
  obtain ⟨sl, q⟩ := U.slot b o e n hb hx
  obtain ⟨o2, q2, nf⟩ := ff b hb
  rw [q] at q2; cases q2
  obtain ⟨sl', q3⟩ := up b _ q nf
  exact ⟨sl', q3⟩
 free := U.free
 there := fun b o e hx => by
  by_cases hb : b ∈ fs
  ·obtain ⟨o2, q2, nf⟩ := ff b hb
   obtain ⟨sl, q3⟩ := up b _ q2 nf
   exact ⟨_, q3⟩
  ·obtain ⟨o', q⟩ := c1 b o e hb
   exact ⟨o', st3 b _ q⟩
 tups := U.tups
 frzs := U.frzs
 tbls := U.tbls
theorem HOk.fly (hok : HOk P w H h2) (c2 : ∀ b u, H b = some u -> ∃ o', B.get? b = some o') (st2 : B.StaysIn h2) (st3 : B.StaysIn h3) : HOk P w H h3 := fun b u e => by
 refine (hok b u e).stay (fun c v hc q => ?_) (fun _ q => q) fun _ _ q => q
 obtain ⟨o', q'⟩ : ∃ o', B.get? c = some o' := by
  rcases hc with rfl | hc
  ·exact c2 c _ e
  ·exact c2 c _ hc
 have := st2 c o' q'
 rw [q] at this; cases this
 exact st3 c _ q'
end
section
variable {P : Program} {w : World} {K : PySem.W.Frag} {mg : Str -> Option Value} {base : Heap} {N : List Str} {qual : Str} {scope : Scope} {f : Addr} {cd : Value} {A : Around} {outer : List Env} {s : Shared} {H : Hp} {E : XK}
noncomputable def vmro : List Value := [.type "ValueError", .type "Exception", .type "BaseException", .type "object"]
theorem zdp.there {h : Heap} {a : Addr} {o : HO} (x : zdp P w H h a o) : ∃ ob, h.get? a = some ob := by
 cases o with
 | lst xs => obtain ⟨_, _, _, _, e⟩ := x; exact ⟨_, e⟩
 | tup xs => obtain ⟨_, _, _, ob, e, _⟩ := x; exact ⟨_, e⟩
 | dK kvs => obtain ⟨_, _, _, _, o, _, _, e, _⟩ := x; exact ⟨_, e⟩
 | dT kvs => obtain ⟨_, _, _, _, o, _, _, e, _⟩ := x; exact ⟨_, e⟩
 | set S n => obtain ⟨o, _, _, _, e, _⟩ := x; exact ⟨_, e⟩
 | ins C dx fs => obtain ⟨_, _, _, e, _⟩ := x; exact ⟨_, e⟩
 | own y => obtain ⟨_, e⟩ := x; exact ⟨_, e⟩
 | xd fs => obtain ⟨_, ⟨_, _, _, e, _⟩, _⟩ := x; exact ⟨_, e⟩
 | rng lo hi => obtain ⟨_, _, _, e⟩ := x; exact ⟨_, e⟩
 | frz ob u => obtain ⟨e, _⟩ := x; exact ⟨_, e⟩
 | tbl ps => exact ⟨_, x⟩
 | met f y => exact ⟨_, x⟩
 | ext φ => obtain ⟨_, e, _⟩ := x; exact e
end
end L2
namespace L2
open PySem PySem.W PySem.Spec PyProof.Rows
noncomputable abbrev Cx.inSuite (X : Cx) (x : Addr) : Cx := { X with A := X.A.mark (some (.ref x)), calm := false, xe := fun _ _ => False }
section
variable {X : Cx} {pins : List (Addr × Obj)} {σ : St} {H : Hp} {s : Shared} {x : Addr}
theorem Inv.inSuite (I : Inv X pins σ H s) (x : Addr) : Inv (X.inSuite x) pins σ H s :=
 ⟨⟨I.ok.mod, I.ok.kind, I.ok.glob, I.ok.blt, I.ok.above, I.ok.inj, I.ok.has, I.ok.cab, (fun z => by cases z), I.ok.frames, I.ok.stk, I.ok.exf, I.ok.bs, I.ok.bsz, I.ok.noex, I.ok.exfs, I.ok.funs, I.ok.frf⟩, I.os, I.bare, I.base, I.loc, I.cell, I.free, I.freeC, I.pin, I.hok, I.len⟩
theorem Inv.outSuite (ok : X.Ok) (I : Inv (X.inSuite x) pins σ H s) : Inv X pins σ H s := ⟨ok, I.os, I.bare, I.base, I.loc, I.cell, I.free, I.freeC, I.pin, I.hok, I.len⟩
theorem zmj {M : Model} {A : Around} {E : Value -> Shared -> Prop} {i : Nat} {n : Str} {v : V} {Q : Unit -> Shared -> Prop} (I : Inv X pins σ H s) (hN : X.N.Nodup) (hi : X.N[i]? = some n) (hx : X.env.scope.names.lookup n = some .local) (hv : σ[i]? = some (some v))
  (h : ∀ s', Inv X pins (σ.set i none) H s' -> Q () s') : wpAny M A (unbindName X.env n) Q E s := by
 obtain ⟨m, hn, hl⟩ := id I.loc
 have hcls : (X.env.scope.kind == .class || (X.env.scope.kind == .module && X.env.locals != X.env.globals)) = false := by rw [I.ok.kind]; rfl
 obtain ⟨u, r, lk⟩ := hl i n v hi hv (.inl hx)
 have hm : m n = some u := by
  rcases lk with ⟨_, e⟩ | ⟨k, _⟩
  ·exact e
  ·have k : X.env.scope.names.lookup n = some .cell \/ X.env.scope.names.lookup n = some .free := k
   rw [hx] at k
   rcases k with k | k <;> cases k
 refine wpAny_unbindName_local hx hn hm hcls fun h' u' hn' hs => ?_
 obtain ⟨oL, _, _, hoL, _⟩ := id hn
 have cne := I.cne
 have hiσ : i < σ.length := by rw [I.len]; exact (List.getElem?_eq_some_iff.mp hi).1
 refine h _ ⟨I.ok, I.os, I.bare, ⟨fun b o e n hb hx => ?_, fun b o e n hb hx => ?_, I.base.free, fun b o e hx => ?_, I.base.tups, I.base.frzs, I.base.tbls⟩, ⟨_, hn', fun j y v' e1 e2 e3 => ?_⟩, fun y c e => ?_, I.free, I.freeC, fun p hp => ?_, fun b ob e => ?_, by simpa using I.len⟩
 ·exact (hs.2 b (Nat.ne_of_lt (Nat.lt_of_lt_of_le (Heap.lt_size e) I.ok.above))).trans (I.base.keep b o e n hb hx)
 ·obtain ⟨sl, e1⟩ := I.base.slot b o e n hb hx
  exact ⟨sl, (hs.2 b (Nat.ne_of_lt (Nat.lt_of_lt_of_le (Heap.lt_size e) I.ok.above))).trans e1⟩
 ·obtain ⟨o', e1⟩ := I.base.there b o e hx
  exact ⟨o', (hs.2 b (Nat.ne_of_lt (Nat.lt_of_lt_of_le (Heap.lt_size e) I.ok.above))).trans e1⟩
 ·by_cases hj : j = i
  ·subst hj
   rw [List.getElem?_set_self hiσ] at e2
   cases e2
  ·rw [List.getElem?_set_ne (Ne.symm hj)] at e2
   obtain ⟨u', r', q⟩ := hl j y v' e1 e2 e3
   refine ⟨u', r', ?_⟩
   rcases q with ⟨k, e⟩ | ⟨k, c, e, z⟩
   ·refine .inl ⟨k, ?_⟩
    have : y ≠ n := fun e => hj (zhb hN e1 (e ▸ hi))
    simp [this, e]
   ·exact .inr ⟨k, c, e, z.sameBut hs (cne y c e)⟩
 ·obtain ⟨w', z⟩ := I.cell y c e
  exact ⟨w', z.sameBut hs (cne y c e)⟩
 ·obtain ⟨e, n, ne, nf, d⟩ := I.pin p hp
  exact ⟨(hs.2 p.1 ne).trans e, n, ne, nf, d⟩
 ·refine (I.hok b ob e).stay (fun c w' hc q => (hs.2 c ?_).trans q) (fun _ q => q) fun _ _ q => q
  rintro rfl
  rcases hc with rfl | hc
  ·rw [I.free] at e; cases e
  ·rw [I.free] at hc; cases hc
end
end L2
namespace L2
open PySem PySem.W PySem.Spec PyProof.Rows PySem.Calls Builtin Builtin.ObjectAttr Builtin.Getset_descriptor
structure XTell (K : PySem.W.Frag) (C : Addr) : Prop where
 ga : findIn K (.ref C) "__getattribute__" = some (some (.builtin "BaseException.__getattribute__"))
 gt : findIn K (.ref C) "__getattr__" = some none
 mb : mroIn K C (.type "BaseException") = some true
 fc : findIn K (.ref C) "__class__" = some (some (.builtin "object.__class__"))
 sp : specialIn K (.builtin "object.__class__") "__get__" = some (some (.builtin "getset_descriptor.__get__"))
 tk : takesIn K (.builtin "object.__class__") = some true
 mo : mroIn K C (.type "object") = some true
 dc : hasDictIn K C = true
section
variable {K : PySem.W.Frag} {x C : Addr}
noncomputable def XAt (x C : Addr) (h : Heap) : Prop := ∃ o, h.get? x = some o /\ o.cls = .ref C
theorem XAt.ty {M : Model} {h : Heap} (p : XAt x C h) : Looks M h (typeOf (.ref x)) (.ref C) := by
 obtain ⟨o, ho, hc⟩ := p
 rw [<- hc]; exact (Looks.ld ho).andThen .now
theorem zqb {M : Model} {h : Heap} (X : K.In h) (T : XTell K C) : Looks M h (Builtin.ObjectAttr.find (.ref x) (.ref C) "__class__") (.bind (.builtin "getset_descriptor.__get__") (.builtin "object.__class__")) :=
 (looks_findIn X T.fc).andThen ((show Looks M h (Builtin.ObjectAttr.getOf (some (.builtin "object.__class__"))) (some (.builtin "getset_descriptor.__get__")) from looks_specialIn X T.sp).andThen
  ((show Looks M h (Builtin.ObjectAttr.dataDescriptor? (some (.builtin "object.__class__")) (some (.builtin "getset_descriptor.__get__"))) (some (_, _)) from (looks_takesIn (M:=M) X T.tk).andThen .now).andThen (Looks.tag .now)))
section
variable {prog : Program} {w : World} {A : Around} {s : Shared}
theorem zok {R : Result -> Shared -> Prop} {tp : Value} (X : K.In s.heap) (T : XTell K C) (p : XAt x C s.heap) (h : R (.ok (.ret (.ref C))) s) : codeAny (model prog w) A (.call (.builtin "getset_descriptor.__get__") ⟨[.builtin "object.__class__", .ref x, tp], []⟩) R s := by
 obtain ⟨hh, g, dr, t, os⟩ := s
 have L0 := p.ty (M:=model prog w); have L1 := looks_mroIn (M:=model prog w) X T.mo
 refine codeAny_call_builtin KF.slot_gs.plain KF.entry_gs (KF.slot_gs.check _ _ _ _ _ _ _ _ KF.type_class (KF.args_gs _ _ _) (show wpAny _ _ _ _ _ _ from ?_))
 unfold Builtin.«getset_descriptor.__get__» descrGet; rw [dga_obj]; refine wpAny_bind (wpAny_pure ?_); unfold descrGetter descrCheckInstance descrNameAndClass isInstance; simp only [KF.owner_class]
 repeat lk
 refine ⟨Code.quiet_builtin _ (by decide +kernel), codeAny_builtin KF.entry_class (show wpAny _ _ _ _ _ _ from ?_)⟩
 unfold Builtin.«object.__class__» shownTypeOf; repeat lk
 exact h
theorem zm8 {E : Value -> Shared -> Prop} {Q : Option Value -> Shared -> Prop} (X : K.In s.heap) (T : XTell K C) (p : XAt x C s.heap) (q : Q (some (.ref C)) { s with toks := s.toks + 1 }) :
  wpAny (model prog w) A (getAttr? (.ref x) "__class__") Q E s := by
 obtain ⟨hh, g, d, t, os⟩ := s
 have L0 := p.ty (M:=model prog w); have L1 := looks_findIn (M:=model prog w) X T.ga; have L2 := looks_findIn (M:=model prog w) X T.gt
 have L3 := zqb (x:=x) (M:=model prog w) X T; have L4 := looks_mroIn (M:=model prog w) X T.mb
 have hbd := F.attr_ValueError.ga.bind (.ref x)
 have hk : builtinKind "BaseException.__getattribute__" = some .slot := by decide +kernel
 have hs : splitId "BaseException.__getattribute__" = some ("BaseException", "__getattribute__") := by decide +kernel
 unfold getAttr? getAttrBy? getAttrBy; refine wpAny_bind (wpAny_mkText (wpAny_bind (wpAny_attempt (wpAny_holding (wpAny_bind (L0.at (wpAny_bind (L1.at ?_))))))))
 show wpAny _ _ (if (_ && _) then _ else _) _ _ _
 rw [if_neg (by rw [Bool.and_eq_true]; intro z; exact absurd z.2 (by decide +kernel))]
 unfold getAttrByItsOwn
 refine wpAny_bind ((show Looks _ _ (hookBefore (.ref C)) none from L2).at (wpAny_bind (wpAny_attempt (wpAny_holding ?_))))
 unfold callGetattribute boundAndCalled
 rw [if_neg (by intro z; cases z), hbd]
 refine wpAny_bind (wpAny_pure (wpAny_call ?_))
 refine codeAny_call_builtin F.attr_ValueError.ga.plain F.entry_bexc_ga ?_
 have hao := F.args_bexc_ga (.ref x) (.str "__class__" t)
 simp only [checkBuiltinCall, hk, hs]; unfold isInstance
 repeat lk
 refine wpAny_run (zok (x:=x) X T p ?_)
 repeat lk
 exact q
end
theorem zod (T : XTell K C) : KitX K (.ref x) (.ref C) (XAt x C) where
 ty := fun _ _ _ p => p.ty
 it := fun _ _ X _ => by
  obtain ⟨cd, hc, _⟩ := any_some T.dc
  unfold clsIn at hc; split at hc
  ·rename_i ho
   intro A' Q' E' s' k q
   unfold isType loadHead; exact wpAny_bind (wpAny_loadPart (k _ _ (X _ _ ho)) (wpAny_pure q))
  ·cases hc
 ne := fun h tp dd its n sl X htp => by
  obtain ⟨cd, hc, _⟩ := any_some T.dc
  refine Bool.eq_false_iff.mpr fun q => ?_
  obtain rfl : C = tp := Value.ref.inj (beq_iff_eq.mp q)
  unfold clsIn at hc; split at hc
  ·rename_i ho
   have z := (X _ _ ho).symm.trans htp; cases z
  ·cases hc
 ca := fun X p k => zm8 X T p k
end
end L2
namespace L2
open PySem PySem.W PyProof.Rows
noncomputable def EvR (K : PySem.W.Frag) (G H₀ L : Hp) (ss : List Sl) (t : TE) : Prop := ∀ F H σ Q, Sat K G H₀ L F H σ ss -> t σ H Q
section
variable {K : PySem.W.Frag} {G H₀ L : Hp} {ss : List Sl} {ta tb te : TE} {t : TA} {ds : List D} {D0 : Ends} {E : XK} {C : Addr} {pre bad : List D -> Prop} {res : List D -> List D}
theorem zlx (a : EvR K G H₀ L ss te) : Go K G H₀ L D0 ss (tRet te) := fun F H σ S => a F H σ _ S
end
end L2
namespace L2
open PySem PySem.W PyProof.Rows
theorem zf0 {X : Cx} {st : Stmt} {t : TS} (h : PS X.nox st t) : PS X st t := fun pins s σ H D I hw =>
 wpAny_mono (h pins s σ H D (I.wish _) hw) (fun _ _ q => q.unwish) fun _ _ z => False.elim z
end L2
namespace L2
open PySem PySem.W PySem.Spec PyProof.Rows
noncomputable abbrev QS := List (Addr × List D)
section
variable {K : PySem.W.Frag} {G H₀ L : Hp} {ss : List Sl} {i : Nat} {p : Addr} {kqs : KQ} {kvs : DD} {qs : QS} {E : Ends} {D0 : XK} {t : TA} {te ta td : TE} {d : D} {ds : List D} {dss : List (List D)} {pre : List D -> Prop} {res : List D -> List (List D)}
mutual
noncomputable def D.nm : D -> Bool
 | .lst _ => false
 | .dct ks vs => D.nms ks && D.nms vs
 | .dctT _ _ => false
 | .ins _ _ _ => false
 | .tup a => D.nms a
 | _ => true
noncomputable def D.nms : List D -> Bool
 | [] => true
 | a :: x => a.nm && D.nms x
end
noncomputable def cut (F : Hp) (as : List Addr) : Hp := fun b => if b ∈ as then none else F b
end
end L2
namespace L2
open PySem PySem.W PySem.Spec PyProof.Rows
end L2
namespace L2
open PySem PySem.Spec PyProof.Rows
end L2
namespace L2
open PySem PySem.W PySem.Spec PyProof.Rows
end L2
namespace L2
open PySem PySem.W PySem.Spec PyProof.Rows
structure CMeth (K : PySem.W.Frag) (C : Addr) (m : Str) (f : Addr) : Prop where
 ga : specialIn K (.ref C) "__getattribute__" = some (some (.builtin "type.__getattribute__"))
 rd : readsIn K C (.type "type") = true
 fc : findCls K (.ref C) (.type "type") m = some (.val (.ref f))
 kp : keepIn K (.ref f) = true
section
variable {X : Cx} {CX : CXT} {C f : Addr} {m x : Str} {k : Nat} {fd : FuncData} {ps : List Str} {sp : Sp} {ds : List Value} {dvs : List V} {E : XK} {e : Expr} {es : List Expr} {t : TA} {p apos pos : Pos}
theorem zln {pl : Sem Bool} (hg : Gl X x) (hm : X.mg x = some (.ref C)) (M : CMeth X.K C m f) (F : FnOk X.prog X.w X.K X.mg X.base CX k f fd ps sp) (hr : Room k X.A) (hb : zbw X.K fd ps ds) (hd : Vals dvs ds) (hx : zc5 CX X E) (ha : PA X (e :: es) t)
  (hdb : (x == ("__debug__" : Str)) = false := by decide) (hst : starEach (e :: es) X.env = (false, eval e X.env) :: starEach es X.env := by rfl) (hpl : (backTo pos (starEach es X.env)).any (·.1) = false := by rfl)
  (ht : eval (.Call (.Attribute (.Name x p) m apos) (e :: es) [] pos) X.env = (do
   let ov <- eval (.Name x p) X.env
   standAt apos.atName
   let (f, first) <- holding [ov] (getMethod ov m pl)
   callWith pos f first (backTo pos (starEach (e :: es) X.env)) (backToKw pos (keywordEach [] X.env))) := by rfl) :
  PE X (.Call (.Attribute (.Name x p) m apos) (e :: es) [] pos) (zex sp dvs E t) := by
 intro pins s σ H Q I h
 refine PySem.W.methodCall_KW (pl:=pl) (thn (zcp (v:=.ref C) hg hm rfl hdb pins s σ H (fun v H1 => v = .ref C /\ H1 = H) I ⟨rfl, rfl⟩) fun u s1 hz9 => ?_) ht
 obtain ⟨v, H1, I1, rx, ev, eh⟩ := hz9
 subst ev eh
 obtain rfl : u = Value.ref C := rx
 refine method_cls I1.kIn M.ga (cls_value I1.kIn M.rd M.fc rfl ?_)
 refine PySem.W.callWith_K (first:=[]) (h₀:=X.base) I.ok.mod.kin M.kp (thn (ha pos pins _ σ _ _ (I1.tok _) h) fun us s2 ⟨vs, H2, I2, r, q2⟩ => ⟨I2.kIn, ?_⟩) hst hpl
 exact zpd F hr hb hd hx I2 r q2
end
end L2
namespace L2
open PySem PySem.W PySem.Spec PyProof.Rows
noncomputable def zm7 (C : Addr) (n1 n2 : Str) (c : V) : Sp := fun vs H Q _ => ∃ (x dx : Addr) (u : V), vs = [.ref x, u] /\ H x = some (.ins C dx []) /\ H dx = some (.own x) /\ Q .non (upd H x (.ins C dx [(n1, u), (n2, c)]))
end L2
namespace L2
open PySem PySem.W PySem.Spec PyProof.Rows
noncomputable def D.isT : D -> Bool
 | .tup l => l.all D.isK | _ => false
noncomputable def D.tkey : D -> List Key
 | .tup l => l.map D.key | _ => []
inductive Dkt (K : PySem.W.Frag) (F : Hp) : DD -> List (List Key × V) -> Prop
 | nil : Dkt K F [] []
 | cons {k d : D} {v : V} {kvs : DD} {xs : List (List Key × V)} (hk : k.isT = true) (r : Rep K F d v) (t : Dkt K F kvs xs) : Dkt K F ((k, d) :: kvs) ((k.tkey, v) :: xs)
end L2
namespace L2
open PySem PySem.W PySem.Spec PyProof.Rows
end L2
namespace L2
open PySem PySem.W PySem.Spec PyProof.Rows
section
variable {K : PySem.W.Frag} {G H₀ L : Hp} {ss : List Sl} {i : Nat} {C : Addr} {ta : TE} {t : TA} {E : XK} {D0 : Ends} {c : V} {ns : List Str} {vs ds : List D} {d : D} {pre : List (Str × V) -> List D -> Prop} {res : List (Str × V) -> List D -> D}
theorem zfc {n1 n2 : Str} {w : Int} {l : List Nat} (a : EvAF K G H₀ L ss t [.int w, .str l]) : Ev K G H₀ L ss (zpo C (zen C n1 n2) [] E t) (.ins C [n1, n2] [.int w, .str l]) := fun F H σ Q S q =>
 a F H σ _ S fun vs F1 H1 e1 r1 => by
  have r0 := r1
  rw [Reps] at r1
  obtain ⟨v1, r, rfl, rv1, r1⟩ := r1
  rw [Reps] at r1
  obtain ⟨v2, r', rfl, rv2, r1⟩ := r1
  rw [Reps] at r1
  subst r1
  intro x dx hx hdx hne
  refine ⟨x, dx, v1, v2, rfl, zah, by rw [zaj hne]; exact zah, rfl, ?_⟩
  rw [upd2]
  have e2 := (Ext.refl e1.fh).newF (o:=.own x) hdx
  have hx2 : upd H1 dx (.own x) x = none := by rw [zaj (Ne.symm hne)]; exact hx
  have e3 := e2.newF (o:=.ins C dx [(n1, v1), (n2, v2)]) hx2
  exact q _ _ _ (e1.trans e3) (Rep.ins (fs:=[(n1, v1), (n2, v2)]) zah (by rw [zaj hne]; exact zah) (r0.mono e3.gf))
theorem zog {n1 n2 : Str} {w : Int} {l : List Nat} (hl : ∀ c ∈ l, c < 128) (a : EvAF K G H₀ L ss t [.int w]) : Ev K G H₀ L ss (zpo C (zm7 C n1 n2 (.str (T l))) [] E t) (.ins C [n1, n2] [.int w, .str l]) := fun F H σ Q S q =>
 a F H σ _ S fun vs F1 H1 e1 r1 => by
  rw [Reps] at r1
  obtain ⟨v1, r, rfl, rv1, r1⟩ := r1
  rw [Reps] at r1
  subst r1
  intro x dx hx hdx hne
  refine ⟨x, dx, v1, rfl, zah, by rw [zaj hne]; exact zah, rfl, ?_⟩
  rw [upd2]
  have e2 := (Ext.refl e1.fh).newF (o:=.own x) hdx
  have hx2 : upd H1 dx (.own x) x = none := by rw [zaj (Ne.symm hne)]; exact hx
  have e3 := e2.newF (o:=.ins C dx [(n1, v1), (n2, .str (T l))]) hx2
  exact q _ _ _ (e1.trans e3) (Rep.ins (fs:=[(n1, v1), (n2, .str (T l))]) zah (by rw [zaj hne]; exact zah) (Reps.cons (rv1.mono e3.gf) (Reps.cons (Rep.str hl) Reps.nil)))
theorem zp2 {f : Str} {n1 n2 : Str} {w l : D} (a : Ev K G H₀ L ss ta (.ins C [n1, n2] [w, l])) (cl : Cls K C) (n : zbu K C f) (hf : (f = n1 /\ d = w) \/ ((f == n1) = false /\ f = n2 /\ d = l)) : Ev K G H₀ L ss (tFld K ta f) d := fun F H σ Q S q =>
 a F H σ _ S fun v F1 H1 e1 r1 => by
  obtain ⟨x, dx, fs, rfl, hx, hd, hn, rv⟩ := r1.of_ins
  match fs, hn, rv with
  | [(a1, v1), (a2, v2)], hn, rv =>
   simp only [List.map_cons, List.map_nil, List.cons.injEq, and_true] at hn
   obtain ⟨rfl, rfl⟩ := hn
   rw [List.map_cons, List.map_cons, List.map_nil, Reps] at rv
   obtain ⟨_, _, e, ra, rv⟩ := rv
   cases e
   rw [Reps] at rv
   obtain ⟨_, _, e, rb, rv⟩ := rv
   cases e
   rcases hf with ⟨rfl, rfl⟩ | ⟨hne, rfl, rfl⟩
   ·exact ⟨x, C, dx, _, v1, rfl, e1.fh _ _ hx, cl, n, by simp [List.lookup], q _ F1 H1 e1 ra⟩
   ·exact ⟨x, C, dx, _, v2, rfl, e1.fh _ _ hx, cl, n, by simp only [List.lookup, hne]; simp, q _ F1 H1 e1 rb⟩
  | [], hn, rv => cases hn
  | [_], hn, rv => simp at hn
  | _ :: _ :: _ :: _, hn, rv => simp at hn
end
end L2
namespace L2
open PySem PySem.W PySem.Spec PyProof.Rows
noncomputable def zow (xs : List V) (H : Hp) (Q : V -> Hp -> Prop) : Prop := ∃ i : Int, xs = [.int i] /\ i.natAbs.log2 < 1920 /\ Q (.str (Str.ofString (toString i))) H
noncomputable def zn7 (xs : List V) (H : Hp) (Q : V -> Hp -> Prop) : Prop := ∃ (x : Str) (n : Int), xs = [.str x] /\ PySem.intText? x = some n /\ x.length <= 640 /\ Q (.int n) H
section
variable {X : Cx}
theorem zja : zco X (.type "str") zow := by
 intro pins s σ H xs us Q I r h
 obtain ⟨i, rfl, hi, q⟩ := h
 obtain ⟨u, rfl, t, rfl⟩ := zjr r
 exact P.str_of_int hi ⟨.str _, H, I.tok _, ⟨_, rfl⟩, q⟩
theorem ziu : zco X (.type "int") zn7 := by
 intro pins s σ H xs us Q I r h
 obtain ⟨x, n, rfl, hn, hl, q⟩ := h
 obtain ⟨u, rfl, t, rfl⟩ := zjr r
 exact KIN.call_text hn hl ⟨.int n, H, I.tok _, ⟨_, rfl⟩, q⟩
end
noncomputable def numL (n : Nat) : List Nat := (Nat.toDigits 10 n).map Char.toNat
theorem zmd (n : Nat) : Str.ofString (toString (n : Int)) = T (numL n) := by
 have h := KIN.signs_num n
 have e : ∀ x y : Str, x.cps.toList = y.cps.toList -> x = y := fun x y h => by
  cases x; cases y; congr 1; exact Array.toList_inj.mp h
 exact e _ _ (by rw [h, zf7]; rfl)
theorem zd0 (n : Nat) : ∀ c ∈ numL n, 48 <= c /\ c <= 57 := fun c hc => by
 obtain ⟨ch, hch, e⟩ := List.mem_map.mp hc
 have r := digit_range (Nat.isDigit_of_mem_toDigits (by decide) (by decide) hch)
 rw [<- e]
 exact r
theorem zkw (n : Nat) : NumText.digitsVal (numL n) = n := KIN.val_back n
theorem znv : ∀ n : Nat, 0 < n -> ∃ c r, numL n = c :: r /\ 49 <= c /\ c <= 57 := fun n => by
 induction n using Nat.strongRecOn with
 | _ m ih =>
  intro h0
  by_cases h : m < 10
  ·unfold numL
   rw [Nat.toDigits_of_lt_base h]
   exact ⟨_, [], rfl, (show ∀ k : Nat, k < 10 -> 0 < k -> 49 <= (Nat.digitChar k).toNat /\ (Nat.digitChar k).toNat <= 57 by decide) m h h0⟩
  ·have hm : m % 10 < 10 := Nat.mod_lt m (by decide)
   have t : Nat.toDigits 10 (m / 10) ++ Nat.toDigits 10 (m % 10) = Nat.toDigits 10 (10 * (m / 10) + m % 10) := Nat.toDigits_append_toDigits (by decide) (by lia) hm
   rw [Nat.div_add_mod] at t
   obtain ⟨c, r, e, h1⟩ := ih (m / 10) (by lia) (by lia)
   refine ⟨c, r ++ numL (m % 10), ?_, h1⟩
   show (Nat.toDigits 10 m).map Char.toNat = _
   rw [<- t, List.map_append]
   show numL (m / 10) ++ numL (m % 10) = _
   rw [e]; rfl
theorem zox {n : Nat} (h : n < 10 ^ 10) : (numL n).length <= 10 := by
 have := KT.len_num (n:=(n : Int)) (by lia) (by have : ((10 : Int) ^ 10) = ((10 ^ 10 : Nat) : Int) := rfl; rw [this]; exact Int.ofNat_lt.mpr h)
 rw [zmd, zb4] at this
 exact this
section
variable {K : PySem.W.Frag} {G H₀ L : Hp} {ss : List Sl} {te : TE}
theorem znl {i : Int} (a : EvB K G H₀ L ss te (.int i)) (h0 : 0 <= i) (h1 : i < 10 ^ 10) : Ev K G H₀ L ss (tCB zow (zbf te tNil)) (.str (numL i.toNat)) := fun F H σ Q S q =>
 a F H σ _ S fun v F1 H1 e1 r1 => ⟨i, by rw [r1.of_int], by
  have hb : i.natAbs < 2 ^ 1920 := by
   have h2 : i.natAbs < 10 ^ 10 := by lia
   exact Nat.lt_of_lt_of_le h2 (Nat.le_trans (show 10 ^ 10 <= 2 ^ 64 by decide) (Nat.pow_le_pow_right (by decide) (by decide)))
  by_cases z : i.natAbs = 0
  ·rw [z]; decide
  ·exact (Nat.log2_lt z).mpr hb, by
  obtain ⟨n, rfl⟩ := Int.eq_ofNat_of_zero_le h0
  rw [zmd]
  exact q _ _ _ e1 (Rep.str fun c hc => by have := (zd0 n c hc).2; lia)⟩
theorem zm6 {l : List Nat} (a : EvB K G H₀ L ss te (.str l)) (h : ∀ c ∈ l, 48 <= c /\ c <= 57) (h1 : l ≠ []) (h2 : l.length <= 640) : Ev K G H₀ L ss (tCB zn7 (zbf te tNil)) (.int (NumText.digitsVal l : Nat)) := fun F H σ Q S q =>
 a F H σ _ S fun v F1 H1 e1 r1 => by
  have e := PySem.intText_digits (x:=T l) (by rw [zf7]; exact h) (by rw [zf7]; exact h1) (by rw [zb4]; lia)
  rw [zf7] at e
  exact ⟨T l, _, by rw [r1.of_str], e, by rw [zb4]; exact h2, q _ _ _ e1 Rep.int⟩
end
end L2
namespace L2
open PySem PySem.W PySem.Spec PyProof.Rows
section
variable {K : PySem.W.Frag} {G H₀ L : Hp} {ss : List Sl} {C : Addr} {ta tb : TE} {ns : List Str} {vs : List D} {d : D}
theorem zrw {u : TT} {b : Bool} (a : EvT K G H₀ L ss u b) (h1 : b = true -> Ev K G H₀ L ss ta d) (h2 : b = false -> Ev K G H₀ L ss tb d) : Ev K G H₀ L ss (tIf u ta tb) d := fun F H σ Q S q => a F H σ _ S fun F' H' e => by
 cases b with
 | false => exact iteF (h2 rfl _ _ _ _ (S.ext2 e) fun v F'' H'' e' r => q _ _ _ (e.trans e') r)
 | true => exact iteT (h1 rfl _ _ _ _ (S.ext2 e) fun v F'' H'' e' r => q _ _ _ (e.trans e') r)
end
end L2
namespace L2
open PySem PySem.W PyProof.Rows
end L2
namespace PySem
open Sem (wp)
section
variable {prog : Program} {w : World} {A : Around} {E : Value -> Shared -> Prop} {h : Heap} {g : Array GenState} {d : Drawn} {t : Nat} {os : OsState}
variable {nm q : Str} {C N : Addr} {bs bm bmB : List Value} {hdct : Bool} {sn : List Str} {sub : List Value} {ab : Bool} {col : Option Bool} {dd : Option Addr} {k0 k1 k2 k3 k5 : Option Value} {B Bn newId nid initId inN : String} {bmN : List Value}
theorem zfp (Fn : ExcBaseFacts Bn newId inN bmN) (hBn : bmB.contains (.type Bn) = true) (F : ExcBaseFacts B nid initId bmB) (T : OwnTail h bmB bm) {mN : Str -> Option Value} {rest : List Value} {fI : Addr} {oI : Obj} {Q : Fin -> Shared -> Prop}
  (hC : h.get? C = some (excClassObj nm q C N bs bm hdct sn sub ab col dd k0 k1 k2 k3 k5 newId)) (hn : h.Ns N mN) (hi : mN "__init__" = some (.ref fI)) (hfI : h.get? fI = some oI) (hfc : oI.cls = .type "function")
  (hq : ∀ h' e, h.objs.size <= e -> Heap.MadeExcOf h h' e (.ref C) rest -> wpAny (model prog w) A (call (.ref fI) (.ref e :: rest)) (fun r s' => r = .none /\ Q (.done (.ret (.ref e))) s') E ⟨h', g, d, t, os⟩) (hrest : rest.length <= sizeLine) :
  wpAny (model prog w) A (Builtin.«type.__call__» ⟨.ref C :: rest, []⟩) Q E ⟨h, g, d, t, os⟩ := by
 repeat (first | with_reducible refine wpAny_loadPart_at hC ?_ | with_reducible refine wpAny_madeBy_exc hC ?_ | wp_step)
 refine codeAny_call_builtin_code (Code.quiet_builtin _ Fn.quiet) (wpAny_check_new_subU Fn hBn T hC ?_)
 refine codeAny_exc_new_subU Fn hBn F T hC ?_ hrest
 show wpAny _ _ _ _ _ _
 have k2 : ∀ b o, h.get? b = some o -> ((h.push { cls := .type "tuple", data := .seq rest.toArray }).push { cls := .ref C, data := .fields #[.ref h.objs.size, .none, .none, .none, .bool false, .none] }).get? b = some o := fun b o e => Heap.get?_push_of_some _ (Heap.get?_push_of_some _ e)
 have hC1 := k2 _ _ hC
 have hf1 := k2 _ _ hfI
 have hn1 : ((h.push { cls := .type "tuple", data := .seq rest.toArray }).push { cls := .ref C, data := .fields #[.ref h.objs.size, .none, .none, .none, .bool false, .none] }).Ns N mN := let ⟨o, es, ep, e, r⟩ := hn; ⟨o, es, ep, k2 _ _ e, r⟩
 have hget : ((h.push { cls := .type "tuple", data := .seq rest.toArray }).push { cls := .ref C, data := .fields #[.ref h.objs.size, .none, .none, .none, .bool false, .none] }).get? (h.objs.size + 1) = some { cls := .ref C, data := .fields #[.ref h.objs.size, .none, .none, .none, .bool false, .none] } := by heap_get
 have hcC : (Value.ref C :: bm).contains (.ref C) = true := by simp
 have T1 := T.keeps k2
 unfold isInstance
 repeat (first | with_reducible refine wpAny_loadPart_at hget ?_ | (with_reducible refine wpAny_isSubtype_exc hC1 ?_; rw [hcC]) | wp_step)
 show wpAny _ _ (typeLookup (.ref C) _) _ _ _
 refine wpAny_typeLookup_tail hC1 hn1 T1 F.mroIs F.init.lookup ?_
 rw [hi]
 refine wpAny_holding (wpAny_bind ?_)
 unfold bindSpecial
 refine wpAny_bind (wpAny_typeOf (T:="function") ⟨_, hf1, hfc⟩ ?_)
 rw [if_pos (by decide)]
 refine wpAny_pure (wpAny_bind (wpAny_mono (hq _ (h.objs.size + 1) (Nat.le_succ _) ⟨k2, Heap.get?_none_of_le (Nat.le_succ _), h.objs.size, hget, Heap.get?_none_of_le (Nat.le_refl _), ?_⟩) (fun r s' hr => ?_) fun _ _ x => x))
 ·exact Heap.get?_push_of_some _ (Heap.get?_push_at rfl rfl)
 ·obtain ⟨rfl, hQ⟩ := hr
  wp_walk
  exact hQ
theorem zgq (Fn : ExcBaseFacts Bn newId inN bmN) (hBn : bmB.contains (.type Bn) = true) (F : ExcBaseFacts B nid initId bmB) (T : OwnTail h bmB bm) {mN : Str -> Option Value} {rest : List Value} {fI : Addr} {oI : Obj} {Q : Value -> Shared -> Prop}
  (hC : h.get? C = some (excClassObj nm q C N bs bm hdct sn sub ab col dd k0 k1 k2 k3 k5 newId)) (hn : h.Ns N mN) (hi : mN "__init__" = some (.ref fI)) (hfI : h.get? fI = some oI) (hfc : oI.cls = .type "function")
  (hq : ∀ h' e, h.objs.size <= e -> Heap.MadeExcOf h h' e (.ref C) rest -> wpAny (model prog w) (A.under (.builtin "type.__call__" ⟨.ref C :: rest, []⟩)) (call (.ref fI) (.ref e :: rest)) (fun r s' => r = .none /\ Q (.ref e) s') E ⟨h', g, d, t, os⟩) (hrest : rest.length <= sizeLine) :
  wpAny (model prog w) A (call (.ref C) rest) Q E ⟨h, g, d, t, os⟩ := by
 have f1 := tc_lookup
 have f2 := tc_bind (.ref C)
 have hT : (⟨h, g, d, t, os⟩ : Shared).TypeIs (.ref C) "type" := ⟨_, hC, rfl⟩
 refine wpAny_call (codeAny_of_tree ?_)
 show wpAny _ _ (callAny (.ref C) _) _ _ _
 repeat (any_goals (first | assumption | with_reducible refine wpAny_loadPart_at hC ?_ | wp_step))
 refine ⟨rfl, ?_⟩
 exact codeAny_call_builtin_at (Code.quiet_builtin _ (by decide +kernel)) entry_typeCall (wpAny_check_type_call_sub hC (zfp (hrest:=hrest) Fn hBn F T hC hn hi hfI hfc fun h' e hs hm => hq h' e hs hm))
end
end PySem
namespace L2
open PySem PySem.W PySem.Spec PyProof.Rows
noncomputable def excInI (K : PySem.W.Frag) (C : Addr) (bmB : List Value) (newId : String) (fI : Addr) : Bool := match K.lookup C with
 | some ⟨.type "type", _, .cls cd, sl⟩ => (match cd.mro, sl.toList with
  | .ref C' :: bm, [_, _, _, _, some (.builtin n), _] => C' == C && n == newId && !cd.hasDel && tailIn K bmB bm && nsOkIn K cd.ns && nsIn K cd.ns "__init__" == some (some (.ref fI))
  | _, _ => false)
 | _ => false
noncomputable def zht (K : PySem.W.Frag) (C fI : Addr) : Prop := excInI K C vmro "ValueError.__new__" fI = true
theorem zsz {K : PySem.W.Frag} {h : Heap} {N : Addr} {m : Str -> Option Value} {n : Str} {v : Value} (X : K.In h) (G : h.Ns N m) (e : nsIn K N n = some (some v)) : m n = some v := by
 obtain ⟨o, es, ep, ho, hd, _, hf⟩ := G
 unfold nsIn at e
 split at e
 ·rename_i c d es' n' sl q
  have := X _ _ q
  rw [ho] at this
  cases this
  cases hd
  split at e
  ·rename_i en he
   cases e
   rw [<- hf]
   unfold nsFind findBy
   rw [<- Array.find?_toList, he]
   rfl
  ·split at e <;> cases e
 ·cases e
theorem zd4 {K : PySem.W.Frag} {h : Heap} {C fI : Addr} (X : K.In h) (q : zht K C fI) : ∃ tl N nm q bs hdct sn sub ab col dd k0 k1 k2 k3 k5 mN, h.get? C = some (excClassObj nm q C N bs tl hdct sn sub ab col dd k0 k1 k2 k3 k5 "ValueError.__new__") /\ h.Ns N mN /\ mN "__init__" = some (.ref fI) /\ OwnTail h vmro tl := by
 unfold zht excInI at q
 split at q
 ·rename_i dd cd sl ho
  split at q
  ·rename_i C' bm k0 k1 k2 k3 n k5 hm hs
   simp only [Bool.and_eq_true, beq_iff_eq, Bool.not_eq_true'] at q
   obtain ⟨⟨⟨⟨⟨rfl, rfl⟩, hdel⟩, ht⟩, hok⟩, hni⟩ := q
   obtain ⟨nm, bs, mro, ns, qn, hd, sn, sub, ab, col, del⟩ := cd
   dsimp only at hm hdel hok hni
   subst hm hdel
   have hsl : sl = #[k0, k1, k2, k3, some (.builtin "ValueError.__new__"), k5] := by
    obtain ⟨l⟩ := sl
    simp only at hs
    rw [hs]
   subst hsl
   exact ⟨bm, ns, nm, qn, bs, hd, sn, sub, ab, col, dd, k0, k1, k2, k3, k5, _, X _ _ ho, .of_isNs (isNs_of_in X hok), zsz X (.of_isNs (isNs_of_in X hok)) hni, tail_of_in X ht⟩
  ·cases q
 ·cases q
noncomputable def zlc (e C : Addr) (dd : Option Addr) (h : Heap) : Prop := ∃ t : Value, h.get? e = some { cls := .ref C, dict := dd, data := .fields #[t, .none, .none, .none, .bool false, .none] }
noncomputable def ErrO (e C : Addr) (dd : Option Addr) : HO := .ext (zlc e C dd)
theorem zjw {P : Program} {w : World} {H : Hp} {h : Heap} {e C : Addr} {dd : Option Addr} (x : zlc e C dd h) : zdp P w H h e (ErrO e C dd) :=
 ⟨x, let ⟨_, q⟩ := x; ⟨_, q⟩, fun h1 h2 ⟨t, q⟩ k => ⟨t, k _ q⟩⟩
theorem Inv.errMade {X : Cx} {pins : List (Addr × Obj)} {σ : St} {H : Hp} {s : Shared} {h' : Heap} {e C : Addr} {rest : List Value} (I : Inv X pins σ H s) (hs : s.heap.objs.size <= e) (m : Heap.MadeExcOf s.heap h' e (.ref C) rest) :
  Inv X pins σ (upd H e (ErrO e C none)) { s with heap := h', toks := s.toks } := by
 obtain ⟨t, q, _, _⟩ := m.there
 exact I.laid (t':=s.toks) (fun b u z => m.keeps b u z) hs (zjw ⟨.ref t, q⟩)
end L2
namespace L2
open PySem PySem.W PySem.Spec PyProof.Rows
noncomputable def tFsI (a b : Str) (te : TE) : TE := fun σ H Q => (Str.empty ++ a).length <= sizeLine /\ te σ H fun x H1 => ∃ i : Int, x = .int i /\ i.natAbs.log2 < 1920 /\ (Str.empty ++ a ++ (toString i : Str)).length <= sizeLine /\ (Str.empty ++ a ++ (toString i : Str) ++ b).length <= sizeLine /\ Q (.str (Str.empty ++ a ++ (toString i : Str) ++ b)) H1
section
variable {X : Cx} {a b : Str} {e : Expr} {te : TE} {k1 k2 : Nat} {p1 p2 p3 pos : Pos}
theorem zkm {x : Str} {u : Value} (r : RelV (.str x) u) : ∃ t, u = .str x t := r
theorem zn5 {i : Int} {u : Value} (r : RelV (.int i) u) : ∃ t, u = .int i t := r
theorem zkj (he : PE X e te) : PE X (.JoinedStr [.Constant (.str a) k1 p1, .FormattedValue e (-1) none p2, .Constant (.str b) k2 p3] pos) (tFsI a b te) := by
 intro pins s σ H Q I h
 refine JoinedStr_many (joinParts_cons ?_)
 refine wpAny_mono (zal (x:=a) pins s σ H (fun v H1 => v = .str a /\ H1 = H) I ⟨rfl, rfl⟩) (fun u s1 ⟨v, H1, I1, rv, ev, eh⟩ => ?_) fun _ _ z => z
 subst ev eh
 obtain ⟨t1, rfl⟩ := zkm rv
 refine ⟨h.1, joinParts_cons (FormattedValue_plain ?_)⟩
 refine wpAny_mono (he pins s1 σ H1 _ I1 h.2) (fun u s2 ⟨x, H2, I2, r2, i, ex, hd, z1, z2, q⟩ => ?_) fun _ _ z => z
 subst ex
 obtain ⟨t2, rfl⟩ := zn5 r2
 refine formatField_int_small hd ⟨z1, joinParts_consE (joinParts_cons ?_)⟩
 refine wpAny_mono (zal (x:=b) pins _ σ H2 (fun v H1 => v = .str b /\ H1 = H2) (I2.tok _) ⟨rfl, rfl⟩) (fun u s3 ⟨v, H3, I3, rv, ev, eh⟩ => ?_) fun _ _ z => z
 subst ev eh
 obtain ⟨t3, rfl⟩ := zkm rv
 exact ⟨z2, joinParts_nilE (joinParts_nil ⟨.str (Str.empty ++ a ++ (toString i : Str) ++ b), H3, I3.tok _, ⟨_, rfl⟩, q⟩ z2)⟩
end
end L2
namespace L2
open PySem PySem.W PySem.Spec PyProof.Rows
structure CInitB (K : PySem.W.Frag) (C : Addr) : Prop where
 ga : specialIn K (.ref C) "__getattribute__" = some (some (.builtin "type.__getattribute__"))
 rd : readsIn K C (.type "type") = true
 fc : findCls K (.ref C) (.type "type") "__init__" = some (.val (.builtin "ValueError.__init__"))
noncomputable def zkl (K : PySem.W.Frag) (t : TA) : TE := fun σ H Q => t σ H fun vs H1 => ∃ e C dd v, vs = [.ref e, v] /\ H1 e = some (ErrO e C dd) /\ (∃ fI, zht K C fI) /\ Q .non H1
section
variable {X : Cx} {B : Addr} {x : Str} {e1 e2 : Expr} {t : TA} {p apos pos : Pos}
theorem zgs {pl : Sem Bool} (hg : Gl X x) (hm : X.mg x = some (.ref B)) (M : CInitB X.K B) (ha : PA X [e1, e2] t)
  (hdb : (x == ("__debug__" : Str)) = false := by decide) (hst : starEach [e1, e2] X.env = (false, eval e1 X.env) :: starEach [e2] X.env := by rfl) (hpl : (backTo pos (starEach [e2] X.env)).any (·.1) = false := by rfl)
  (ht : eval (.Call (.Attribute (.Name x p) "__init__" apos) [e1, e2] [] pos) X.env = (do
   let ov <- eval (.Name x p) X.env
   standAt apos.atName
   let (f, first) <- holding [ov] (getMethod ov "__init__" pl)
   callWith pos f first (backTo pos (starEach [e1, e2] X.env)) (backToKw pos (keywordEach [] X.env))) := by rfl) :
  PE X (.Call (.Attribute (.Name x p) "__init__" apos) [e1, e2] [] pos) (zkl X.K t) := by
 intro pins s σ H Q I h
 refine PySem.W.methodCall_KW (pl:=pl) (thn (zcp (v:=.ref B) hg hm rfl hdb pins s σ H (fun v H1 => v = .ref B /\ H1 = H) I ⟨rfl, rfl⟩) fun u s1 hz9 => ?_) ht
 obtain ⟨v, H1, I1, rx, ev, eh⟩ := hz9
 subst ev eh
 obtain rfl : u = Value.ref B := rx
 refine method_cls I1.kIn M.ga (cls_value I1.kIn M.rd M.fc rfl ?_)
 have hA := ha pos pins _ σ _ _ (I1.tok (s1.toks + 1)) h
 rw [hst] at hA ⊢
 refine Calls.callWith_builtin (by show (false || (backTo pos (starEach [e2] X.env)).any (·.1)) = false; rw [hpl] <;> rfl) (Calls.evalArgs_plain ?_)
 refine thn hA fun us s2 ⟨vs, H2, I2, r, e, C, dd, v, ev, he, ⟨fI, hx⟩, q⟩ => ?_
 subst ev
 obtain ⟨u1, u2, rfl, r1, r2⟩ := zi5 r
 cases r1
 obtain ⟨tl, Na, nm, q', bs, hdct, sn, sub, ab, col, ddc, k0, k1, k2, k3, k5, mN, hC, hN, hni, T⟩ := zd4 I2.kIn hx
 obtain ⟨t0, ho⟩ : zlc e C dd s2.heap := (I2.hok e _ he).1
 obtain ⟨hh, g, d, tk, os⟩ := s2
 refine wpAny_call (codeAny_call_builtin PySem.F.excBase_ValueError.init.plain PySem.F.excBase_ValueError.initEntry (wpAny_check_init_subU PySem.F.excBase_ValueError T hC ho rfl ?_))
 wp_walk
 have hk : ∀ b u, b ≠ e -> hh.get? b = some u -> ((hh.push { cls := .type "tuple", data := .seq #[u2] }).update e (Obj.mapFields (·.setIfInBounds 0 (Value.ref hh.objs.size)))).get? b = some u := fun b u hb z => by
  rw [Heap.get?_update_other _ _ (Ne.symm hb)]
  exact Heap.get?_push_of_some _ z
 have hget : ((hh.push { cls := .type "tuple", data := .seq #[u2] }).update e (Obj.mapFields (·.setIfInBounds 0 (Value.ref hh.objs.size)))).get? e = some { cls := .ref C, dict := dd, data := .fields #[.ref hh.objs.size, .none, .none, .none, .bool false, .none] } := by
  rw [Heap.get?_update_self _ (Heap.get?_push_of_some _ ho) rfl]
  rfl
 have J := Inv.write (o:=ErrO e C dd) (t':=tk) I2 (by rw [he]; trivial) (.inl rfl) hk ⟨_, hget⟩ (zjw ⟨_, hget⟩)
 have eH : upd H2 e (ErrO e C dd) = H2 := by
  funext b
  by_cases hb : b = e
  ·subst hb; rw [zah, he]
  ·rw [zaj hb]
 rw [eH] at J
 cases t0 <;> first | exact wpAny_letGo (wpAny_pure ⟨.non, H2, J, rfl, q⟩) | exact wpAny_pure (wpAny_pure ⟨.non, H2, J, rfl, q⟩)
end
end L2
namespace L2
open PySem PySem.W PySem.Spec PyProof.Rows PySem.Calls Builtin Builtin.ObjectAttr
noncomputable def vtail : List Value -> Bool
 | .ref _ :: r => vtail r
 | l => l == vmro
structure XStore (K : PySem.W.Frag) (C : Addr) (name : Str) : Prop where
 sa : findIn K (.ref C) "__setattr__" = some (some (.builtin "object.__setattr__"))
 nm : findIn K (.ref C) name = some none
 ob : mroIn K C (.type "object") = some true
 hd : hasDictIn K C = true
 tl : ((clsIn K C).any fun cd => vtail cd.mro) = true
theorem zke (self : Value) : ∀ {l : List Value}, vtail l = true -> refuseLoop self "__setattr__" l = pure ()
 | .ref c :: r, e => by rw [refuseLoop_ref]; exact zke self e
 | [], e => by cases e
 | .type n :: r, e => by rw [beq_iff_eq.mp (show ((Value.type n :: r) == vmro) = true from e)]; exact PySem.F.store_ValueError.passes self
 | .none :: r, e => by have := beq_iff_eq.mp (show ((Value.none :: r) == vmro) = true from e); cases this
 | .bool _ :: r, e => by have := beq_iff_eq.mp (show ((Value.bool _ :: r) == vmro) = true from e); cases this
 | .int _ _ :: r, e => by have := beq_iff_eq.mp (show ((Value.int _ _ :: r) == vmro) = true from e); cases this
 | .float _ _ :: r, e => by have := beq_iff_eq.mp (show ((Value.float _ _ :: r) == vmro) = true from e); cases this
 | .str _ _ :: r, e => by have := beq_iff_eq.mp (show ((Value.str _ _ :: r) == vmro) = true from e); cases this
 | .bytes _ _ :: r, e => by have := beq_iff_eq.mp (show ((Value.bytes _ _ :: r) == vmro) = true from e); cases this
 | .builtin _ :: r, e => by have := beq_iff_eq.mp (show ((Value.builtin _ :: r) == vmro) = true from e); cases this
section
variable {prog : Program} {w : World} {A : Around} {E : Value -> Shared -> Prop} {K : PySem.W.Frag} {h : Heap} {g : Array GenState} {d : Drawn} {t : Nat} {os : OsState} {e C : Addr} {oe : Obj} {name : Str} {v : Value}
theorem zqg {Q : Unit -> Shared -> Prop} (X : K.In h) (S : XStore K C name) (ho : h.get? e = some oe) (hc : oe.cls = .ref C) (hdn : oe.dict = none) (hnc : notCls oe = true) {vs : Array Value} (hdat : oe.data = .fields vs)
  (hq : ∀ h' tk, h'.get? e = some { oe with dict := some h.objs.size } -> h'.Ns1 h.objs.size (fun y => if y = name then some v else none) -> (∀ b o, b ≠ e -> h.get? b = some o -> h'.get? b = some o) -> Q () ⟨h', g, d, tk, os⟩) :
  wpAny (model prog w) A (setAttr (.ref e) name v) Q E ⟨h, g, d, t, os⟩ := by
 have SF := PySem.F.store_ValueError
 have I : InstAt h e oe C none := ⟨ho, hc, hnc, by rw [hdn]; trivial⟩
 obtain ⟨cd, hcl, htl⟩ := any_some S.tl
 obtain ⟨cd2, hcl2, hdd⟩ := any_some S.hd
 have e2 : cd = cd2 := Option.some.inj (hcl.symm.trans hcl2)
 subst e2
 refine set_plain (s:=⟨h, g, d, t, os⟩) X I S.sa ?_
 have sub : Looks (model prog w) h (isInstance (.ref e) (.type "object")) true := I.type.andThen (looks_mroIn X S.ob)
 refine codeAny_call_builtin SF.slot.plain SF.entry (@check_slot (model prog w) _ _ ⟨h, g, d, t + 1, os⟩ "object.__setattr__" "object" "__setattr__" (.ref e) [.str name t, v] [] _ SF.kind SF.split sub (SF.args (.ref e) (.str name t) v) ?_)
 have hm : Looks (model prog w) h (mroOf (.ref C)) cd.mro := (looks_clsIn X hcl).andThen .now
 rw [osa_eq, refuse_eq]
 refine wpAny_bind (wpAny_bind (Looks.here (s:=⟨h, g, d, t + 1, os⟩) I.type (wpAny_bind (Looks.here (s:=⟨h, g, d, t + 1, os⟩) hm ?_))))
 rw [zke _ htl]
 refine wpAny_pure (wpAny_bind (Looks.here (s:=⟨h, g, d, t + 1, os⟩) I.type (wpAny_bind (Looks.here (s:=⟨h, g, d, t + 1, os⟩) (looks_findIn X S.nm) (wpAny_bind (wpAny_pure ?_))))))
 show wpAny _ _ (storeInOwnDict (.ref e) (.ref C) (.str name t) name v false) _ _ _
 refine wpAny_bind (wpAny_pure (wpAny_bind ?_))
 obtain ⟨oc, odi, oda, osl⟩ := oe
 dsimp only at hc hdn hdat hq
 subst hc hdn hdat
 refine wpAny_bind (wpAny_loadPart ho (wpAny_bind (Looks.here (s:=⟨h, g, d, t + 1, os⟩) (looks_clsIn X hcl) ?_)))
 rw [hdd]
 rw [if_neg (by decide)]
 have ho1 : (h.push { cls := .type "dict", data := .dict #[] }).get? e = some (⟨.ref C, none, .fields vs, osl⟩ : Obj) := Heap.get?_push_of_some _ ho
 have hes : e ≠ h.objs.size := Nat.ne_of_lt (Heap.lt_size ho)
 show wpAny _ _ (alloc { cls := .type "dict", data := .dict #[] } >>= fun dx => (update e fun o => { cls := o.cls, dict := some dx, data := o.data, slots := o.slots }) >>= fun _ => dictMade (.ref C) e dx) _ _ _
 refine wpAny_bind (wpAny_alloc' ?_)
 refine wpAny_bind (wpAny_update' ho1 ?_)
 refine wpAny_pure ?_
 have hgd : ((h.push { cls := .type "dict", data := .dict #[] }).update e fun o => { cls := o.cls, dict := some h.objs.size, data := o.data, slots := o.slots }).get? h.objs.size = some { cls := .type "dict", data := .dict #[] } := (Heap.get?_update_ne _ _ _ _ hes.symm).trans (Heap.get?_push_at rfl rfl)
 have hnd : ((h.push { cls := .type "dict", data := .dict #[] }).update e fun o => { cls := o.cls, dict := some h.objs.size, data := o.data, slots := o.slots }).Ns h.objs.size (fun _ => none) := ⟨_, #[], _, hgd, rfl, fun _ z => absurd z (by simp), fun _ => rfl⟩
 show wpAny _ _ (storeInDict h.objs.size (.str name t) name v) _ _ _
 unfold storeInDict newKeyGuard
 refine wpAny_bind (wpAny_pure (wpAny_bind (wpAny_nsSet1 (Heap.Ns1.of_empty hnd) fun h' hn' hs => ?_)))
 obtain ⟨oD, esD, epD, hoD, hdD, hcD⟩ := hn'.count (Within.cons name v Within.nil)
 refine wpAny_bind (wpAny_lookBehind hoD (by rw [hdD]; exact pastItsLine_dict (Nat.le_trans hcD (by rw [List.length_cons, List.length_nil, sizeLine_eq]; lia))) ?_)
 wp_walk
 refine hq h' _ ((hs.2 e hes).trans (Heap.get?_update_self _ ho1 rfl)) hn' fun b o hb z => ?_
 exact (hs.2 b (Nat.ne_of_lt (Heap.lt_size z))).trans ((Heap.get?_update_ne _ _ _ _ hb).trans (Heap.get?_push_of_some _ z))
end
noncomputable def zl3 (K : PySem.W.Frag) (ta tv : TE) (f : Str) : TS := fun D σ H => tv σ H fun y H1 => ta σ H1 fun x H2 => ∃ e C, x = .ref e /\ H2 e = some (ErrO e C none) /\ XStore K C f /\ ∀ dx, H2 dx = none -> dx ≠ e -> D.nx σ (upd (upd H2 e (ErrO e C (some dx))) dx (.xd [(f, y)]))
section
variable {X : Cx} {o value : Expr} {ta tv : TE} {f : Str} {pos' pos : Pos}
theorem zh5 (ha : PE X o ta) (hv : PE X value tv) (hs : swapsWith value (some (.Attribute o f pos')) pos.line X.env = pure false) : PS X (.Assign [.Attribute o f pos'] value pos) (zl3 X.K ta tv f) := by
 intro pins s σ H D I h
 refine plainObj_wpAny_Assign_Attribute (thn (hv pins s σ H _ I h) fun u s1 ⟨y, H1, I1, ry, q⟩ => thn (ha pins s1 σ H1 _ I1 q) fun ov s2 hz9 => ?_) hs
 obtain ⟨x, H2, I2, rx, e, C, ex, he, S, q2⟩ := hz9
 subst ex
 obtain rfl : ov = Value.ref e := rx
 obtain ⟨t0, ho⟩ : zlc e C none s2.heap := (I2.hok e _ he).1
 obtain ⟨hh, g, d, tk, os⟩ := s2
 refine zqg I2.kIn S ho rfl rfl rfl rfl fun h' tk' hget hns hk => ?_
 have hes : e ≠ hh.objs.size := Nat.ne_of_lt (Heap.lt_size ho)
 have hmk : ∀ b u, b ≠ e -> hh.get? b = some u -> (hh.update e fun o => { cls := o.cls, dict := some hh.objs.size, data := o.data, slots := o.slots }).get? b = some u := fun b u hb z => (Heap.get?_update_ne _ _ _ _ hb).trans z
 have hme : (hh.update e fun o => { cls := o.cls, dict := some hh.objs.size, data := o.data, slots := o.slots }).get? e = some { cls := .ref C, dict := some hh.objs.size, data := .fields #[t0, .none, .none, .none, .bool false, .none] } := Heap.get?_update_self _ ho rfl
 have I3 := Inv.write (o:=ErrO e C (some hh.objs.size)) (t':=tk') I2 (by rw [he]; trivial) (.inl rfl) hmk ⟨_, hme⟩ (zjw ⟨_, hme⟩)
 have hkk : ∀ b u, (hh.update e fun o => { cls := o.cls, dict := some hh.objs.size, data := o.data, slots := o.slots }).get? b = some u -> h'.get? b = some u := fun b u z => by
  by_cases hb : b = e
  ·subst hb; rw [hme] at z; cases z; exact hget
  ·have z2 := (Heap.get?_update_ne _ _ _ _ hb).symm.trans z
   exact hk b u hb z2
 have hsz : (hh.update e fun o => { cls := o.cls, dict := some hh.objs.size, data := o.data, slots := o.slots }).objs.size <= hh.objs.size := by simp [Heap.update]
 have I4 := Inv.laid (a:=hh.objs.size) (o:=.xd [(f, y)]) (t':=tk') I3 hkk hsz ⟨_, hns, fun n => ?_⟩
 ·exact ⟨σ, _, I4, q2 _ (I2.hok.fresh (Nat.le_refl _)) hes.symm⟩
 ·by_cases hn : n = f
  ·subst hn; simp [List.lookup]; exact ry
  ·have : (n == f) = false := by simpa using hn
   simp [List.lookup, this, hn]; trivial
end
end L2
namespace L2
open PySem
noncomputable def RI (M : Model) (Γ : _root_.PySem.Ctx) (p : Pos) (s : Shared) (e : End) (s' : Shared) : Sem PySem.Fin → Prop
  | .pure (.done f) => e = .ret (.ok f) ∧ s' = s
  | .raise x => e = .ret (.error x) ∧ s' = s
  | .yield v g l k => e = .susp v g l k Γ.code p [] ∧ s' = s
  | .pure (.again c) => _root_.PySem.Runs M (Γ.goto c) p (M.den c) [] s e s'
  | .rule _ k => _root_.PySem.Runs M Γ p (k ()) [] s e s'
  | .at p' k => _root_.PySem.Runs M Γ p' (k ()) [] s e s'
  | .load a _ k => ∃ o, s.heap.get? a = some o ∧ _root_.PySem.Runs M Γ p (k o) [] s e s'
  | .update a _ f k => _root_.PySem.Runs M Γ p (k ()) [] { s with heap := s.heap.update a f } e s'
  | .loadIfAlive a k => _root_.PySem.Runs M Γ p (k (s.heap.get? a)) [] s e s'
  | .point _ k => _root_.PySem.Runs M Γ p (k ()) [] s e s'
  | .alloc o k => _root_.PySem.Runs M Γ p (k s.heap.objs.size) [] { s with heap := s.heap.push o } e s'
  | .fresh k => _root_.PySem.Runs M Γ p (k s.toks) [] { s with toks := s.toks + 1 } e s'
  | .ask k => _root_.PySem.Runs M Γ p (k ⟨M.prog, M.w.params⟩) [] s e s'
  | .choose src n k => _root_.PySem.Runs M Γ p (k (M.w.draws src (s.drawn.get src) % n)) [] { s with drawn := s.drawn.bump src } e s'
  | .os q _ k => _root_.PySem.Runs M Γ p (k (Os.step s.os q).2) [] { s with os := (Os.step s.os q).1 } e s'
  | .handled own k => _root_.PySem.Runs M Γ p (k (if own then Γ.own else Γ.handled)) [] s e s'
  | .genState g k => ∃ st, s.gens[g]? = some st ∧ _root_.PySem.Runs M Γ p (k st.seen) [] s e s'
  | .stack k => _root_.PySem.Runs M Γ p (k ((Γ.code, p) :: Γ.below)) [] s e s'
  | .thread k => _root_.PySem.Runs M Γ p (k 0) [] s e s'
  | .newGen c k => _root_.PySem.Runs M Γ p (k s.gens.size) [] { s with gens := s.gens.push (.fresh c) } e s'
  | .call c h g l k => (∃ r s₁, _root_.PySem.Runs M (Γ.enter c h p) p (M.den c) [] s (.ret r) s₁ ∧ _root_.PySem.Runs M Γ p (k r) [] s₁ e s') ∨
      ∃ v g₀ l₀ k₀ c₀ p₀ fs, _root_.PySem.Runs M (Γ.enter c h p) p (M.den c) [] s (.susp v g₀ l₀ k₀ c₀ p₀ fs) s' ∧ e = .susp v g₀ l₀ k₀ c₀ p₀ (fs ++ [.ret k h g l Γ.code p []])
  | .resume g r _ k => ∃ res s₁, Wakes M Γ p g r s res s₁ ∧ _root_.PySem.Runs M Γ p (k res) [] s₁ e s'
  | _ => False
theorem wakes_send {M : Model} {Γ : _root_.PySem.Ctx} {p : Pos} {g : Nat} {v : Value} {s s' : Shared} {res : GenResult} {c : Code} (e1 : s.gens[g]? = some (.fresh c)) (hv : v ≠ .none) : Wakes M Γ p g (.send v) s res s' ↔ res = .justStarted ∧ s' = s := by
  unfold Wakes
  rw [e1]
  cases v with
  | none => exact absurd rfl hv
  | _ => exact Iff.rfl
theorem runs_inv {M : Model} {Γ : _root_.PySem.Ctx} {p : Pos} {t : Sem PySem.Fin} {s s' : Shared} {e : End} (h : _root_.PySem.Runs M Γ p t [] s e s') : RI M Γ p s e s' t := by
  cases h with
  | load e1 r => exact ⟨_, e1, r⟩
  | genState e1 r => exact ⟨_, e1, r⟩
  | call a b => exact .inl ⟨_, _, a, b⟩
  | callSusp a => exact .inr ⟨_, _, _, _, _, _, _, a, rfl⟩
  | done => exact ⟨rfl, rfl⟩
  | raise => exact ⟨rfl, rfl⟩
  | yield => exact ⟨rfl, rfl⟩
  | resumeFresh e1 a q b => exact ⟨_, _, by unfold Wakes; rw [e1]; exact ⟨_, _, a, q, rfl, rfl⟩, b⟩
  | resumeSuspended e1 a q b => exact ⟨_, _, by unfold Wakes; rw [e1]; exact ⟨_, _, a, q, rfl, rfl⟩, b⟩
  | resumeJustStarted e1 n b => exact ⟨_, _, (wakes_send e1 n).mpr ⟨rfl, rfl⟩, b⟩
  | resumeThrowFresh e1 b => exact ⟨_, _, by unfold Wakes; rw [e1]; exact ⟨rfl, rfl⟩, b⟩
  | resumeRunning e1 b => exact ⟨_, _, by unfold Wakes; rw [e1]; exact ⟨rfl, rfl⟩, b⟩
  | resumeFinished e1 b => exact ⟨_, _, by unfold Wakes; rw [e1]; exact ⟨rfl, rfl⟩, b⟩
  | again _ r => exact r
  | update _ r => exact r
  | choose _ r => exact r
  | rule r => exact r
  | «at» r => exact r
  | loadIfAlive r => exact r
  | point r => exact r
  | alloc r => exact r
  | fresh r => exact r
  | ask r => exact r
  | os r => exact r
  | handled r => exact r
  | stack r => exact r
  | thread r => exact r
  | newGen r => exact r
noncomputable def SG (M : Model) (Γ : _root_.PySem.Ctx) (p : Pos) (t : Sem PySem.Fin) (F : Frame) (fs : List Frame) (s : Shared) (e : End) (s' : Shared) : Prop :=
    (∃ k h' g l c₁ p₁ kp r s₁, F = .ret k h' g l c₁ p₁ kp ∧ _root_.PySem.Runs M (Γ.over (F :: fs)) p t [] s (.ret r) s₁ ∧ _root_.PySem.Runs M (Γ.goto c₁) p₁ (k r) fs s₁ e s') ∨
    (∃ g k l c₁ p₁ r s₁, F = .gen g k l c₁ p₁ ∧ _root_.PySem.Runs M (Γ.over (F :: fs)) p t [] s (.ret r) s₁ ∧ _root_.PySem.Runs M (Γ.goto c₁) p₁ (k (End.ret r).result) fs (s₁.setGen g .finished) e s') ∨
    (∃ v g₀ l₀ k₀ c₀ p₀ fs₀, splitAtGen (F :: fs) = none ∧ _root_.PySem.Runs M (Γ.over (F :: fs)) p t [] s (.susp v g₀ l₀ k₀ c₀ p₀ fs₀) s' ∧ e = .susp v g₀ l₀ k₀ c₀ p₀ (fs₀ ++ F :: fs)) ∨
    ∃ pre g k c₁ p₁ rest v g₀ l₀ k₀ c₀ p₀ fs₀ s₁, splitAtGen (F :: fs) = some (pre, (g, k, c₁, p₁), rest) ∧ _root_.PySem.Runs M (Γ.over (F :: fs)) p t [] s (.susp v g₀ l₀ k₀ c₀ p₀ fs₀) s₁ ∧ _root_.PySem.Runs M (Γ.goto c₁) p₁ (k (.yielded v)) rest (s₁.setGen g (End.susp v g₀ l₀ k₀ c₀ p₀ (fs₀ ++ pre)).genState) e s'
theorem runs_seg {M : Model} {Γ : _root_.PySem.Ctx} {p : Pos} {t : Sem PySem.Fin} {F : Frame} {fs : List Frame} {s s' : Shared} {e : End} (h : _root_.PySem.Runs M Γ p t (F :: fs) s e s') : SG M Γ p t F fs s e s' := by
  cases h with
  | segRet a b => exact .inl ⟨_, _, _, _, _, _, _, _, _, rfl, a, b⟩
  | segGen a b => exact .inr (.inl ⟨_, _, _, _, _, _, _, rfl, a, b⟩)
  | segSuspOut n a => exact .inr (.inr (.inl ⟨_, _, _, _, _, _, _, n, a, rfl⟩))
  | segSuspGen n a _ b => exact .inr (.inr (.inr ⟨_, _, _, _, _, _, _, _, _, _, _, _, _, _, n, a, b⟩))
theorem zg8 {M : Model} {Γ : _root_.PySem.Ctx} {p : Pos} {t : Sem PySem.Fin} {fs : List Frame} {s s' : Shared} {e : End} (h : _root_.PySem.Runs M Γ p t fs s e s') :
    ∀ {e2 s2}, _root_.PySem.Runs M Γ p t fs s e2 s2 → e2 = e ∧ s2 = s' := by
  induction h with
  | done | raise | yield => exact fun h2 => runs_inv h2
  | again _ _ ih | update _ _ ih | choose _ _ ih => exact fun h2 => ih (runs_inv h2)
  | rule _ ih | «at» _ ih | loadIfAlive _ ih | point _ ih | alloc _ ih | fresh _ ih | ask _ ih | os _ ih | handled _ ih | stack _ ih | thread _ ih | newGen _ ih => exact fun h2 => ih (runs_inv h2)
  | load e1 _ ih =>
    intro e2 s2 h2
    obtain ⟨o, e3, r⟩ := runs_inv h2
    cases e1.symm.trans e3
    exact ih r
  | genState e1 _ ih =>
    intro e2 s2 h2
    obtain ⟨o, e3, r⟩ := runs_inv h2
    cases e1.symm.trans e3
    exact ih r
  | call _ _ i1 i2 =>
    intro e2 s2 h2
    rcases runs_inv h2 with ⟨r, s1, a, b⟩ | ⟨v, g0, l0, k0, c0, p0, fs, a, _⟩
    · obtain ⟨q, rfl⟩ := i1 a; cases q; exact i2 b
    · cases (i1 a).1
  | callSusp _ i1 =>
    intro e2 s2 h2
    rcases runs_inv h2 with ⟨r, s1, a, b⟩ | ⟨v, g0, l0, k0, c0, p0, fs, a, e3⟩
    · cases (i1 a).1
    · obtain ⟨q, rfl⟩ := i1 a; cases q; exact ⟨e3, rfl⟩
  | resumeFresh e1 _ _ _ i1 i2 =>
    intro e2 s2 h2
    obtain ⟨res, s1, w, r⟩ := runs_inv h2
    unfold Wakes at w
    rw [e1] at w
    obtain ⟨e3, s3, a, _, rfl, rfl⟩ := w
    obtain ⟨rfl, rfl⟩ := i1 a
    exact i2 r
  | resumeSuspended e1 _ _ _ i1 i2 =>
    intro e2 s2 h2
    obtain ⟨res, s1, w, r⟩ := runs_inv h2
    unfold Wakes at w
    rw [e1] at w
    obtain ⟨e3, s3, a, _, rfl, rfl⟩ := w
    obtain ⟨rfl, rfl⟩ := i1 a
    exact i2 r
  | resumeJustStarted e1 n1 _ i1 =>
    intro e2 s2 h2
    obtain ⟨res, s1, w, r⟩ := runs_inv h2
    obtain ⟨rfl, rfl⟩ := (wakes_send e1 n1).mp w
    exact i1 r
  | resumeThrowFresh e1 _ i1 | resumeRunning e1 _ i1 | resumeFinished e1 _ i1 =>
    intro e2 s2 h2
    obtain ⟨res, s1, w, r⟩ := runs_inv h2
    unfold Wakes at w
    rw [e1] at w
    obtain ⟨rfl, rfl⟩ := w
    exact i1 r
  | segRet _ _ i1 i2 =>
    intro e2 s2 h2
    rcases runs_seg h2 with ⟨k, h', g, l, c1, p1, kp, r, s1, q, a, b⟩ | ⟨g, k, l, c1, p1, r, s1, q, _⟩ | ⟨v, g0, l0, k0, c0, p0, f0, n, a, _⟩ | ⟨pre, g, k, c1, p1, rest, v, g0, l0, k0, c0, p0, f0, s1, n, a, _⟩
    · cases q; obtain ⟨q, rfl⟩ := i1 a; cases q; exact i2 b
    · cases q
    · cases (i1 a).1
    · cases (i1 a).1
  | segGen _ _ i1 i2 =>
    intro e2 s2 h2
    rcases runs_seg h2 with ⟨k, h', g, l, c1, p1, kp, r, s1, q, _⟩ | ⟨g, k, l, c1, p1, r, s1, q, a, b⟩ | ⟨v, g0, l0, k0, c0, p0, f0, n, a, _⟩ | ⟨pre, g, k, c1, p1, rest, v, g0, l0, k0, c0, p0, f0, s1, n, a, _⟩
    · cases q
    · cases q; obtain ⟨q, rfl⟩ := i1 a; cases q; exact i2 b
    · cases (i1 a).1
    · cases (i1 a).1
  | segSuspOut n1 _ i1 =>
    intro e2 s2 h2
    rcases runs_seg h2 with ⟨k, h', g, l, c1, p1, kp, r, s1, q, a, b⟩ | ⟨g, k, l, c1, p1, r, s1, q, a, b⟩ | ⟨v, g0, l0, k0, c0, p0, f0, n, a, e3⟩ | ⟨pre, g, k, c1, p1, rest, v, g0, l0, k0, c0, p0, f0, s1, n, a, _⟩
    · cases (i1 a).1
    · cases (i1 a).1
    · obtain ⟨q, rfl⟩ := i1 a; cases q; exact ⟨e3, rfl⟩
    · rw [n1] at n; cases n
  | segSuspGen n1 _ _ _ i1 i2 =>
    intro e2 s2 h2
    rcases runs_seg h2 with ⟨k, h', g, l, c1, p1, kp, r, s1, q, a, b⟩ | ⟨g, k, l, c1, p1, r, s1, q, a, b⟩ | ⟨v, g0, l0, k0, c0, p0, f0, n, a, e3⟩ | ⟨pre, g, k, c1, p1, rest, v, g0, l0, k0, c0, p0, f0, s1, n, a, b⟩
    · cases (i1 a).1
    · cases (i1 a).1
    · rw [n1] at n; cases n
    · rw [n1] at n; cases n; obtain ⟨q, rfl⟩ := i1 a; cases q; exact i2 b
theorem zly {M : Model} {Γ : _root_.PySem.Ctx} {p : Pos} {g : Nat} {r : Resume} {s s' s2 : Shared} {res res2 : GenResult} (h : Wakes M Γ p g r s res s') (h2 : Wakes M Γ p g r s res2 s2) : res2 = res ∧ s2 = s' := by
  cases hg : s.gens[g]? with
  | none => unfold Wakes at h; rw [hg] at h; exact h.elim
  | some gs =>
    cases gs with
    | fresh c =>
      cases r with
      | send v =>
        by_cases hv : v = .none
        · subst hv
          unfold Wakes at h h2
          rw [hg] at h h2
          obtain ⟨e1, s1, h1, _, rfl, rfl⟩ := h
          obtain ⟨e3, s3, h3, _, rfl, rfl⟩ := h2
          obtain ⟨rfl, rfl⟩ := zg8 h1 h3
          exact ⟨rfl, rfl⟩
        · obtain ⟨rfl, rfl⟩ := (wakes_send hg hv).mp h
          exact (wakes_send hg hv).mp h2
      | throw x =>
        unfold Wakes at h h2
        rw [hg] at h h2
        obtain ⟨rfl, rfl⟩ := h; exact h2
    | suspended k0 _ c0 p0 fs _ =>
      unfold Wakes at h h2
      rw [hg] at h h2
      obtain ⟨e1, s1, h1, _, rfl, rfl⟩ := h
      obtain ⟨e3, s3, h3, _, rfl, rfl⟩ := h2
      obtain ⟨rfl, rfl⟩ := zg8 h1 h3
      exact ⟨rfl, rfl⟩
    | running =>
      unfold Wakes at h h2
      rw [hg] at h h2
      obtain ⟨rfl, rfl⟩ := h; exact h2
    | finished =>
      unfold Wakes at h h2
      rw [hg] at h h2
      obtain ⟨rfl, rfl⟩ := h; exact h2
theorem zp6 {α : Type} {M : Model} {Γ : _root_.PySem.Ctx} {Q Q' : α -> Pos -> Shared -> Prop} {E E' : Value -> Pos -> Shared -> Prop} (t : Sem α) : ∀ (p : Pos) (s : Shared), Sem.wp M Γ t Q E p s -> Sem.wp M Γ t Q' E' p s ->
  Sem.wp M Γ t (fun a p s => Q a p s /\ Q' a p s) (fun e p s => E e p s /\ E' e p s) p s := by
 induction t with
 | pure x => exact fun p s h h' => ⟨h, h'⟩
 | raise v => exact fun p s h h' => ⟨h, h'⟩
 | unsupported | finish | yield | fork | await | register => exact fun p s h h' => h
 | rule _ k ih | «at» _ k ih | alloc _ k ih | loadIfAlive _ k ih | point _ k ih | ask k ih | os _ _ k ih | handled _ k ih | newGen _ k ih | stack k ih | thread k ih | fresh k ih => exact fun p s h h' => ih _ _ _ h h'
 | load a _ k ih | genState a k ih => exact fun p s ⟨o, ho, h⟩ ⟨o', ho', h'⟩ => by rw [ho] at ho'; cases ho'; exact ⟨o, ho, ih _ _ _ h h'⟩
 | update a _ f k ih | choose _ _ k ih => exact fun p s ⟨ha, h⟩ ⟨_, h'⟩ => ⟨ha, ih _ _ _ h h'⟩
 | call c h g l k ih => exact fun p s ⟨r, s1, h1, h2⟩ ⟨r', s1', h1', h2'⟩ => by obtain ⟨q, rfl⟩ := zg8 h1 h1'; cases q; exact ⟨_, _, h1, ih _ _ _ h2 h2'⟩
 | resume g r l k ih => exact fun p s ⟨res, s1, hw, h⟩ ⟨res', s1', hw', h'⟩ => by obtain ⟨rfl, rfl⟩ := zly hw hw'; exact ⟨_, _, hw, ih _ _ _ h h'⟩
theorem zb0 {α : Type} {t : Sem α} {Q Q' : α -> Shared -> Prop} {M : Model} {A : Around} {E E' : Value -> Shared -> Prop} {s : Shared} (h : wpAny M A t Q E s) (h' : wpAny M A t Q' E' s) : wpAny M A t (fun a s => Q a s /\ Q' a s) (fun e s => E e s /\ E' e s) s :=
 fun Γ p hΓ => zp6 t p s (h Γ p hΓ) (h' Γ p hΓ)
end L2
namespace L2
open PySem PySem.W PySem.Spec PyProof.Rows
noncomputable def fld2 (o : Obj) : Option Value := match o.data with
 | .fields vs => vs[2]?
 | _ => none
noncomputable def DK (h h' : Heap) : Prop := ∀ b o, h.get? b = some o -> ∃ o', h'.get? b = some o' /\ o'.dict = o.dict /\ fld2 o' = fld2 o
theorem DK.trans {h1 h2 h3 : Heap} (x : DK h1 h2) (y : DK h2 h3) : DK h1 h3 := fun b o e => by
 obtain ⟨o1, e1, q1, r1⟩ := x b o e
 obtain ⟨o2, e2, q2, r2⟩ := y b o1 e1
 exact ⟨o2, e2, q2.trans q1, r2.trans r1⟩
theorem zpw (h : Heap) (o : Obj) : DK h (h.push o) := fun b u e => ⟨u, Heap.get?_push_of_some _ e, rfl, rfl⟩
theorem zgd (g : Array Value -> Array Value) (o : Obj) : (Obj.mapFields g o).dict = o.dict := by
 obtain ⟨c, d, da, sl⟩ := o
 cases da <;> rfl
theorem zdj {h : Heap} {a : Addr} {o : Obj} {vs : Array Value} (k : Nat) (v : Value) (ho : h.get? a = some o) (hd : o.data = .fields vs) (hk : k ≠ 2) : DK h (h.update a (Obj.mapFields (·.setIfInBounds k v))) := fun b u e => by
 by_cases hb : b = a
 ·subst hb
  rw [ho] at e; cases e
  have hg := Obj.data_mapFields hd (·.setIfInBounds k v)
  refine ⟨_, Heap.get?_update_self (Obj.mapFields (·.setIfInBounds k v)) ho (Obj.isFreed_of_fields hg), zgd _ o, ?_⟩
  unfold fld2
  rw [hg, hd]
  show (vs.setIfInBounds k v)[2]? = vs[2]?
  exact Array.getElem?_setIfInBounds_ne hk
 ·exact ⟨u, (Heap.get?_update_other _ _ (Ne.symm hb)).trans e, rfl, rfl⟩
section
variable {M : Model} {A : Around} {E : Value -> Shared -> Prop} {s : Shared} {B : Heap} {env : Env} {outer : List Env} {L e : Addr}
theorem zhh {oe : Obj} {vs : Array Value} {head : Value} {hn : Bool} (q1 : A.frames = some (env :: outer)) (q2 : s.heap.FunFrames B (env :: outer)) (q3 : env.frame = some L) (q4 : s.heap.get? e = some oe) (q5 : oe.data = .fields vs) (q6 : 1 < vs.size) :
  wpAny M A (do let a <- frameOf env; let pl <- entryPlaceOf L hn; let b <- EntryCells.newEntry head a .none (rawInt L) .none pl; setField (.ref e) 1 b) (fun _ s' => DK s.heap s'.heap) E s := by
 have ne : e ∉ (env :: outer).filterMap (·.frame) := fun z => by
  obtain ⟨_, o, ho, nf⟩ := q2.mem z
  rw [q4] at ho; cases ho; exact nf vs q5
 refine wpAny_bind (wpAny_frameOf_fun q1 q2 q3 fun g kk => wpAny_bind (wpAny_entryPlaceOf fun pl hp => ?_))
 unfold EntryCells.newEntry newFields
 have k1 : DK s.heap g := fun b o z => by obtain ⟨sl, z2⟩ := kk.2.2 b o z; exact ⟨_, z2, rfl, rfl⟩
 have k2 : g.get? e = some oe := (kk.2.1 e ne).trans q4
 exact wpAny_bind (wpAny_newObj_type (wpAny_setField (Heap.get?_push_of_some _ k2) q5 q6 (k1.trans ((zpw _ _).trans (zdj _ _ (Heap.get?_push_of_some _ k2) q5 (by decide))))) (hp.sizeOk5 _ _ _ _ _))
theorem zoz {oe : Obj} {vs : Array Value} (q1 : A.frames = some (env :: outer)) (q2 : s.heap.FunFrames B (env :: outer)) (q3 : env.frame = some L) (q4 : s.heap.get? e = some oe) (q5 : oe.data = .fields vs) (q6 : vs[1]? = some .none) :
  wpAny M A (noteFrame (.ref e) env) (fun _ s' => DK s.heap s'.heap) E s := by
 unfold noteFrame
 simp only [q3]
 refine wpAny_bind (wpAny_field q4 q5 q6 ?_)
 rw [if_neg (by decide)]
 exact zhh q1 q2 q3 q4 q5 (Array.getElem?_eq_some_iff.mp q6).1
theorem zk4 {C a0 : Value} (q1 : A.frames = some (env :: outer)) (q2 : s.heap.FunFrames B (env :: outer)) (q3 : env.frame = some L) (q4 : s.heap.TracedW B e C a0) : wpAny M A (noteFrame (.ref e) env) (fun _ s' => DK s.heap s'.heap) E s := by
 obtain ⟨oe, vs, T, oT, ts, he, ⟨_, _⟩, hd, h1, hnT, hTe, hT, hdT, h3⟩ := q4
 unfold noteFrame
 simp only [q3]
 refine wpAny_bind (wpAny_field he hd h1 ?_)
 rw [if_pos (by simp)]
 refine wpAny_bind (wpAny_field hT hdT h3 ?_)
 rw [if_neg (by simp [rawInt])]
 have k1 := zdj 3 Value.none hT hdT (by decide)
 refine wpAny_bind (wpAny_setField hT hdT (Array.getElem?_eq_some_iff.mp h3).1 ?_)
 have oth : ∀ b, b ≠ T -> (s.heap.update T (Obj.mapFields (·.setIfInBounds 3 Value.none))).get? b = s.heap.get? b := fun b hb => Heap.get?_update_other _ _ (Ne.symm hb)
 have nr : ∀ b o, s.heap.get? b = some o -> (∀ vs, o.data ≠ .fields vs) -> b ≠ T := fun b o hb nf q => by rw [q, hT] at hb; cases hb; exact nf ts hdT
 exact thn (zhh q1 (q2.of_keeps fun b o hb nf => ⟨o, (oth b (nr b o hb nf)).trans hb, rfl⟩) q3 ((oth e (Ne.symm hTe)).trans he) hd (Array.getElem?_eq_some_iff.mp h1).1) fun _ _ k => k1.trans k
theorem znj {C a0 fl : Value} (q4 : s.heap.TracedAtW B e C a0 fl) : wpAny M A (setFlight (.ref e) none) (fun _ s' => DK s.heap s'.heap) E s := by
 obtain ⟨oe, vs, T, oT, ts, he, _, hd, h1, _, _, hT, hdT, h3⟩ := q4
 unfold setFlight
 refine wpAny_bind (wpAny_field he hd h1 ?_)
 rw [if_pos (by simp)]
 exact wpAny_setField hT hdT (Array.getElem?_eq_some_iff.mp h3).1 (zdj _ _ hT hdT (by decide))
end
end L2
namespace L2
open PySem PySem.W PySem.Spec PyProof.Rows
noncomputable def zm0 (c : Bool) (h : Heap) (e : Addr) (dd : Option Addr) : Prop := ∃ o, h.get? e = some o /\ o.dict = dd /\ (c = true -> fld2 o = some .none)
theorem DK.is {c : Bool} {h h' : Heap} {e : Addr} {dd : Option Addr} (k : DK h h') (x : zm0 c h e dd) : zm0 c h' e dd := by
 obtain ⟨o, e1, q, r⟩ := x
 obtain ⟨o', e2, q2, r2⟩ := k e o e1
 exact ⟨o', e2, q2.trans q, fun z => r2.trans (r z)⟩
section
variable {M : Model} {A : Around} {E : Value -> Shared -> Prop} {s : Shared} {B : Heap} {env : Env} {outer : List Env} {L e : Addr} {C a0 : Value} {Q : Unit -> Shared -> Prop}
theorem zkz {h0 : Heap} {m : Sem Unit} (hm : wpAny M A m (fun _ s' => (∃ fl, s'.heap.TracedAtW B e C a0 fl) /\ DK h0 s'.heap) E s) : wpAny M A (m >>= fun _ => setFlight (.ref e) none) (fun _ s' => DK h0 s'.heap) E s :=
 wpAny_bind (wpAny_mono hm (fun _ s1 ⟨⟨fl, t⟩, k⟩ => wpAny_mono (znj t) (fun _ _ k2 => k.trans k2) fun _ _ z => z) fun _ _ z => z)
theorem zlj (q1 : A.frames = some (env :: outer)) (q3 : env.frame = some L) (fl : Heap.FlyingW B (env :: outer) e C a0 s.heap) (h : ∀ h', Heap.FlyingW B outer e C a0 h' -> s.heap.UpToSlots h' -> DK s.heap h' -> Q () { s with heap := h' }) :
  wpAny M A (leaving env (.ref e)) Q E s := by
 obtain ⟨f1, f2, f3, f4⟩ := id fl
 refine wpAny_mono (zb0 (wpAny_leaves_onW (Q:=fun _ s' => ∃ h', s' = { s with heap := h' } /\ Heap.FlyingW B outer e C a0 h' /\ s.heap.UpToSlots h') (E:=E) q1 q3 fl fun h' a b => ⟨h', rfl, a, b⟩) (zkz (E:=E) (m:=noteFrame (.ref e) env)
  (wpAny_mono (zb0 (wpAny_noteFrame_onW (Q:=fun _ s' => ∃ fl, s'.heap.TracedAtW B e C a0 fl) (E:=E) q1 f3 q3 f4 f1 f2 fun h' n => ⟨_, n.2.2.1⟩) (zk4 (E:=E) q1 f3 q3 f4)) (fun _ _ z => z) fun _ _ z => z.1))) (fun _ s' z => ?_) fun _ _ z => z.1
 obtain ⟨⟨h', rfl, a, b⟩, k⟩ := z
 exact h h' a b k
theorem zhx {oe : Obj} {vs : Array Value} (q1 : A.frames = some (env :: outer)) (q2 : s.heap.FunFrames B (env :: outer)) (q3 : env.frame = some L) (q4 : s.heap.get? e = some oe) (qb : B.StaysIn s.heap) (qe : B.get? e = none) (q5 : oe.data = .fields vs) (q6 : vs[1]? = some .none)
  (q7 : vs[0]? = some a0) (h : ∀ h', Heap.FlyingW B outer e oe.cls a0 h' -> s.heap.UpToSlots h' -> DK s.heap h' -> Q () { s with heap := h' }) : wpAny M A (leaving env (.ref e)) Q E s := by
 refine wpAny_mono (zb0 (wpAny_leaving_firstW (Q:=fun _ s' => ∃ h', s' = { s with heap := h' } /\ Heap.LeftW B (env :: outer) e oe.cls a0 s.heap h') (E:=E) q1 q2 q3 q4 qb qe q5 q6 q7 fun h' a => ⟨h', rfl, a⟩) (zkz (E:=E) (C:=oe.cls) (a0:=a0) (B:=B) (m:=noteFrame (.ref e) env)
  (wpAny_mono (zb0 (Q:=fun _ s' => ∃ fl, s'.heap.TracedAtW B e oe.cls a0 fl) (E:=E) ?_ (zoz (E:=E) q1 q2 q3 q4 q5 q6)) (fun _ _ z => z) fun _ _ z => z.1))) (fun _ s' z => ?_) fun _ _ z => z.1
 ·unfold noteFrame
  simp only [q3]
  refine wpAny_bind (wpAny_field q4 q5 q6 ?_)
  rw [if_neg (by decide)]
  exact wpAny_entryW q1 q2 q3 q4 qb qe q5 (Array.getElem?_eq_some_iff.mp q6).1 q7 fun h' n => ⟨_, n.2.2.1⟩
 ·obtain ⟨⟨h', rfl, k1, ⟨_, _, k2⟩, k3, k4⟩, k⟩ := z
  exact h h' ⟨k1, qe, k2, k3⟩ k4 k
theorem zfq (q1 : A.frames = some (env :: outer)) (q3 : env.frame = some L) (fl : Heap.FlyingW B (env :: outer) e C a0 s.heap) (h : ∀ h', Heap.HeldW B (env :: outer) e C a0 L h' -> s.heap.UpToSlots h' -> DK s.heap h' -> Q () { s with heap := h' }) :
  wpAny M A (noteFrame (.ref e) env) Q E s := by
 refine wpAny_mono (zb0 (wpAny_looks_onW (Q:=fun _ s' => ∃ h', s' = { s with heap := h' } /\ Heap.HeldW B (env :: outer) e C a0 L h' /\ s.heap.UpToSlots h') (E:=E) q1 q3 fl fun h' a b => ⟨h', rfl, a, b⟩) (zk4 (E:=E) q1 fl.2.2.1 q3 fl.2.2.2)) (fun _ s' z => ?_) fun _ _ z => z.1
 obtain ⟨⟨h', rfl, a, b⟩, k⟩ := z
 exact h h' a b k
theorem zks {l : List Env} (hh : Heap.HeldW B l e C a0 L s.heap) (h : ∀ h', Heap.FlyingW B l e C a0 h' -> s.heap.UpToSlots h' -> DK s.heap h' -> Q () { s with heap := h' }) : wpAny M A (setFlight (.ref e) none) Q E s := by
 refine wpAny_mono (zb0 (wpAny_landsW (Q:=fun _ s' => ∃ h', s' = { s with heap := h' } /\ Heap.FlyingW B l e C a0 h' /\ s.heap.UpToSlots h') (E:=E) hh fun h' a b => ⟨h', rfl, a, b⟩) (znj (E:=E) hh.2.2.2)) (fun _ s' z => ?_) fun _ _ z => z.1
 obtain ⟨⟨h', rfl, a, b⟩, k⟩ := z
 exact h h' a b k
end
noncomputable def CXB (c : Bool) (P : Program) (w : World) : CXT := fun outer H s E e s' => ∃ (x C : Addr) (a0 : Value) (B : Heap) (H' : Hp) (dd : Option Addr), e = .ref x /\ s'.os = s.os /\ AllBare s'.gens /\ Un (frs outer) [] H H' s.heap s'.heap /\ HOk P w H' s'.heap /\
 Heap.FlyingW B outer x (.ref C) a0 s'.heap /\ (∀ b o, s.heap.get? b = some o -> b ∉ frs outer -> ∃ o', B.get? b = some o') /\ (∀ b u, H' b = some u -> ∃ o', B.get? b = some o') /\ s.heap.get? x = none /\ H' x = none /\ zm0 c s'.heap x dd /\ E (.ref C) dd H'
noncomputable abbrev CX2 := CXB false
theorem zpe {c : Bool} {P : Program} {w : World} {X : Cx} : zc5 (CXB c P w) X E0 := fun _ _ _ _ _ _ _ h => by
 obtain ⟨_, _, _, _, _, _, _, _, _, _, _, _, _, _, _, _, _, q⟩ := h
 exact q.elim
noncomputable def del (H : Hp) (e : Addr) : Hp := fun b => if b = e then none else H b
theorem zdn {H : Hp} {e : Addr} : del H e e = none := by unfold del; rw [if_pos rfl]
theorem zdw {H : Hp} {e b : Addr} (h : b ≠ e) : del H e b = H b := by unfold del; rw [if_neg h]
theorem zkx {H : Hp} {e b : Addr} {u : HO} (h : del H e b = some u) : b ≠ e /\ H b = some u := by
 by_cases hb : b = e
 ·rw [hb, zdn] at h; cases h
 ·rw [zdw hb] at h; exact ⟨hb, h⟩
section
variable {c : Bool} {P : Program} {w : World} {K : PySem.W.Frag} {mg : Str -> Option Value} {base : Heap} {N : List Str} {qual : Str} {scope : Scope} {f : Addr} {cd : Value} {A : Around} {outer : List Env} {s : Shared} {H : Hp} {E : XK}
theorem Un.del {fs : List Addr} {H H1 : Hp} {h h2 : Heap} {e : Addr} (U : Un fs [] H H1 h h2) (he : H e = none) : Un fs [] H (L2.del H1 e) h h2 where
 keep := U.keep
 slot := U.slot
 free := fun b o q n hx => by
  by_cases hb : b = e
  ·rw [hb]; exact zdn
  ·rw [zdw hb]; exact U.free b o q n hx
 there := U.there
 tups := fun b xs q => by rw [zdw (zam q he)]; exact U.tups b xs q
 frzs := fun b o u q => by rw [zdw (zam q he)]; exact U.frzs b o u q
 tbls := fun b ps q => by obtain ⟨m, z⟩ := U.tbls b ps q; exact ⟨m, by rw [zdw (zam q he)]; exact z⟩
theorem HOk.del {H : Hp} {h : Heap} {e : Addr} {φ : Heap -> Prop} (hok : HOk P w H h) (he : H e = some (.ext φ)) : HOk P w (L2.del H e) h := fun b u q => by
 obtain ⟨hb, q⟩ := zkx q
 refine (hok b u q).stay (fun _ _ _ z => z) (fun c z => ?_) fun c xs z => ?_
 ·rw [zdw (zr3 z he (by intro z; cases z))]; exact z
 ·rw [zdw (zr3 z he (by intro z; cases z))]; exact z
theorem zs1 : zc5 (CXB c P w) (cxOf (CXB c P w) P w K mg base N qual scope f cd A outer s H E) E := by
 intro pins σ H1 s1 e s2 I h
 obtain ⟨x, C, a0, B, H2, dd, rfl, os, bare, U, hok, fl, c1, c2, nx, hx, di, q⟩ := h
 have J := I.call' (ch:=[]) os U hok bare (fun b z => nomatch z)
 have thr : ∀ b o, s.heap.get? b = some o -> ∃ o1, s1.heap.get? b = some o1 := fun b o e => I.base.there b o e (fun z => nomatch z)
 have nf : ∀ b o, s.heap.get? b = some o -> b ∉ frs outer -> b ∉ frs (envOfC qual scope s.heap.objs.size f cd :: outer) := fun b o e hb z => by
  have z : b ∈ s.heap.objs.size :: frs outer := z
  rcases List.mem_cons.mp z with z | z
  ·exact absurd (Heap.lt_size e) (by rw [z]; exact Nat.lt_irrefl _)
  ·exact hb z
 have c3 : ∀ b o, s.heap.get? b = some o -> b ∉ frs outer -> ∃ o', B.get? b = some o' := fun b o e hb => by
  obtain ⟨o1, e1⟩ := thr b o e
  exact c1 b o1 e1 (nf b o e hb)
 refine zlj I.ok.frames rfl fl fun h3 fl3 up dk => ?_
 refine ⟨x, C, a0, B, H2, dd, rfl, os.trans I.os, bare, ?_, hok.fly c2 fl.1 fl3.1, fl3, c3, c2, ?_, hx, dk.is di, q⟩
 ·exact Un.fly (B:=B) J.base fl.1 fl3.1 c3 up fun b hb => (fl.2.2.1.mem (b:=b) (List.mem_cons_of_mem _ hb)).2
 ·cases e : s.heap.get? x with
  | none => rfl
  | some o =>
   obtain ⟨o1, e1⟩ := thr x o e
   have e1 : s1.heap.get? x = some o1 := e1
   rw [nx] at e1; cases e1
end
noncomputable def zk2 (h : Heap) (C : Addr) (bm : List Value) : Prop := ∃ nm q N bs hdct sn sub ab col dd k0 k1 k2 k3 k5 newId, h.get? C = some (excClassObj nm q C N bs bm hdct sn sub ab col dd k0 k1 k2 k3 k5 newId)
section
variable {M : Model} {A : Around} {E : Value -> Shared -> Prop} {env : Env}
theorem zld {s : Shared} {x : Sem Value} {Q : Flow -> Shared -> Prop} (hh : A.handled = none)
  (h : wpAny M A x (fun v s1 => ∃ e t de C bm, v = .ref e /\ zk2 s1.heap C bm /\ bm.contains (.type "BaseException") = true /\
   s1.heap.get? e = some { cls := .ref C, dict := de, data := .fields #[t, .none, .none, .none, .bool false, .none] } /\ E (.ref e) s1) E s) :
  wpAny M A (raiseStmt env (some x) none) Q E s := by
 unfold raiseStmt
 refine wpAny_bind (wpAny_mono h (fun v s1 h1 => ?_) fun _ _ x => x)
 obtain ⟨e, t, de, C, bm, rfl, ⟨_, _, _, _, _, _, _, _, _, _, _, _, _, _, _, _, hC⟩, hb, he, hE⟩ := h1
 have hB : (Value.ref C :: bm).contains (.type "BaseException") = true := by rw [List.contains_cons, hb, Bool.or_true]
 obtain ⟨hp, g, d, tk, os⟩ := s1
 repeat (first | with_reducible refine wpAny_loadPart_at he ?_ | with_reducible refine wpAny_loadPart_at hC ?_ | (with_reducible refine wpAny_isSubtype_exc hC ?_; rw [hB]) | wp_step)
 exact wpAny_raiseNew_none hh hE
end
noncomputable def znt (K : PySem.W.Frag) (E : XK) (H₀ : Hp) (te : TE) : TS := fun _ σ H => te σ H fun v H1 => ∃ e C dd, v = .ref e /\ H1 e = some (ErrO e C dd) /\ H₀ e = none /\ (∃ fI, zht K C fI) /\ E (.ref C) dd (del H1 e)
section
variable {c : Bool} {P : Program} {w : World} {K : PySem.W.Frag} {mg : Str -> Option Value} {base : Heap} {N : List Str} {qual : Str} {scope : Scope} {f : Addr} {cd : Value} {A : Around} {outer : List Env} {s : Shared} {H : Hp} {E : XK}
theorem zmy {pins : List (Addr × Obj)} {σ : St} {H2 : Hp} {s2 : Shared} {e C : Addr} {dd : Option Addr} {oe : Obj} {vs : Array Value} {φ : Heap -> Prop} {a0 : Value} (I2 : Inv (cxOf (CXB c P w) P w K mg base N qual scope f cd A outer s H E) pins σ H2 s2) (he : H2 e = some (.ext φ)) (hn : H e = none)
  (ho : s2.heap.get? e = some oe) (hc : oe.cls = .ref C) (hd : oe.dict = dd) (hv : oe.data = .fields vs) (h1 : vs[1]? = some .none) (h0 : vs[0]? = some a0) (h2 : c = true -> vs[2]? = some .none) (q : E (.ref C) dd (del H2 e)) :
  (cxOf (CXB c P w) P w K mg base N qual scope f cd A outer s H E).xe (.ref e) s2 := by
 have thr : ∀ b o, s.heap.get? b = some o -> ∃ o1, s2.heap.get? b = some o1 := fun b o e => I2.base.there b o e (fun z => nomatch z)
 have stk : s2.heap.FunFrames base (envOfC qual scope s.heap.objs.size f cd :: outer) := I2.stack
 have nx : s.heap.get? e = none := by
  cases z : s.heap.get? e with
  | none => rfl
  | some o =>
   have := I2.base.free e o z hn (fun z => nomatch z)
   rw [he] at this; cases this
 generalize hfr : (envOfC qual scope s.heap.objs.size f cd :: outer).filterMap (·.frame) = fr
 have hin : ∀ env ∈ (envOfC qual scope s.heap.objs.size f cd :: outer), ∀ b, env.frame = some b -> b ∈ e :: fr := fun env hz b hb => List.mem_cons_of_mem _ (by rw [<- hfr]; exact List.mem_filterMap.mpr ⟨env, hz, hb⟩)
 have hfs : frs (envOfC qual scope s.heap.objs.size f cd :: outer) = fr := hfr
 generalize hB : hideAll s2.heap (e :: fr) = B
 have bst : B.StaysIn s2.heap := fun b o e => by rw [<- hB] at e; exact of_hideAll _ e
 have bget : ∀ b o, s2.heap.get? b = some o -> b ∉ e :: fr -> B.get? b = some o := fun b o e hb => by rw [<- hB]; exact hideAll_get _ e hb
 have bff : s2.heap.FunFrames B (envOfC qual scope s.heap.objs.size f cd :: outer) := by rw [<- hB]; exact funFrames_hide stk hin
 have be : B.get? e = none := by rw [<- hB]; exact hideAll_none _ (List.mem_cons_self ..)
 have c1 : ∀ b o, s.heap.get? b = some o -> b ∉ frs outer -> ∃ o', B.get? b = some o' := fun b o z hb => by
  obtain ⟨o1, e1⟩ := thr b o z
  refine ⟨o1, bget b o1 e1 fun k => ?_⟩
  rcases List.mem_cons.mp k with k | k
  ·rw [k, nx] at z; cases z
  ·have k : b ∈ s.heap.objs.size :: frs outer := by rw [<- hfs] at k; exact k
   rcases List.mem_cons.mp k with k | k
   ·exact absurd (Heap.lt_size z) (by rw [k]; exact Nat.lt_irrefl _)
   ·exact hb k
 have tin : ∀ b u, del H2 e b = some u -> ∃ o', B.get? b = some o' := fun b u z => by
  obtain ⟨hb, z⟩ := zkx z
  obtain ⟨o, ho⟩ : ∃ o, s2.heap.get? b = some o := (I2.hok b u z).there
  refine ⟨o, bget b o ho fun k => ?_⟩
  rcases List.mem_cons.mp k with k | k
  ·exact hb k
  ·have := I2.stkFree b (by rw [<- hfs] at k; exact k)
   rw [z] at this; cases this
 refine zhx I2.ok.frames bff rfl ho bst be hv h1 h0 fun h3 fl3 up dk => ?_
 rw [hc] at fl3
 refine ⟨e, C, a0, B, del H2 e, dd, rfl, I2.os, I2.bare, ?_, (I2.hok.del he).fly tin bst fl3.1, fl3, c1, tin, nx, zdn, dk.is ⟨oe, ho, hd, fun z => by unfold fld2; rw [hv]; exact h2 z⟩, q⟩
 exact Un.fly (B:=B) (I2.base.del hn) bst fl3.1 c1 up fun b hb => (stk.mem (b:=b) (List.mem_cons_of_mem _ hb)).2
theorem zfn {x : Expr} {te : TE} {pos : Pos} (hp : PE (cxOf (CXB c P w) P w K mg base N qual scope f cd A outer s H E) x te) : PS (cxOf (CXB c P w) P w K mg base N qual scope f cd A outer s H E) (.Raise (some x) none pos) (znt K E H te) := by
 intro pins s1 σ H1 D I h
 have W := hp pins s1 σ H1 _ I h
 show wpAny _ _ (do standAt pos; raiseStmt _ (some (do let v <- eval x _; standAt pos; pure v)) none) _ _ s1
 refine wpAny_bind (wpAny_standAt (zld (I.ok.hd rfl) (wpAny_bind (thn W fun v s2 ⟨u, H2, I2, ru, e, C, dd, eu, he, hn, ⟨fI, hx⟩, q⟩ => wpAny_bind (wpAny_standAt (wpAny_pure ?_))))))
 subst eu
 obtain rfl : v = Value.ref e := ru
 obtain ⟨tl, Na, nm, q', bs, hdct, sn, sub, ab, col, dc, k0, k1, k2, k3, k5, mN, hC, hN, hni, T⟩ := zd4 I2.kIn hx
 obtain ⟨t0, ho⟩ : zlc e C dd s2.heap := (I2.hok e _ he).1
 exact ⟨e, t0, dd, C, tl, rfl, ⟨_, _, _, _, _, _, _, _, _, _, _, _, _, _, _, _, hC⟩, T.hasType PySem.F.excBase_ValueError.hasBase, ho, zmy I2 he hn ho rfl rfl rfl rfl rfl (fun _ => rfl) q⟩
end
end L2
namespace L2
open PySem PySem.W PySem.Spec PyProof.Rows
noncomputable def zh0 (C : Addr) (sp : Sp) (E : XK) (t : TA) : TE := fun σ H Q => t σ H fun vs H1 => ∀ e, H1 e = none -> sp (.ref e :: vs) (upd H1 e (ErrO e C none)) (fun v H2 => v = .non /\ Q (.ref e) H2) E
structure XMk (K : PySem.W.Frag) (C f : Addr) : Prop where
 cls : zht K C f
 fn : PySem.W.isFn K (.ref f) = true
 kp : PySem.W.keepIn K (.ref C) = true
section
variable {X : Cx} {CX : CXT} {k : Nat} {f C : Addr} {fd : FuncData} {ps : List Str} {sp : Sp} {E : XK} {x : Str} {p pos : Pos} {e : Expr} {es : List Expr} {t : TA}
theorem zfj (M : XMk X.K C f) (F : FnOk X.prog X.w X.K X.mg X.base CX k f fd ps sp) (hr : Room (k + 1) X.A) (hg : Gl X x) (hm : X.mg x = some (.ref C)) (hb : zbw X.K fd ps []) (hx : zc5 CX X E)
  (ha : PA X (e :: es) t) (hsz : ps.length <= 100) (hdb : (x == ("__debug__" : Str)) = false := by decide) (he : starEach (e :: es) X.env = (false, eval e X.env) :: starEach es X.env := by rfl) (hpl : (backTo pos (starEach es X.env)).any (·.1) = false := by rfl) :
  PE X (.Call (.Name x p) (e :: es) [] pos) (zh0 C sp E t) := by
 intro pins s σ H Q I h
 refine wpAny_Call_Name_kw (zc2 I hg hm ?_ hdb)
 refine PySem.W.callWith_K (h₀:=X.base) I.ok.mod.kin M.kp (thn (ha pos pins s σ H _ I h) fun us s1 ⟨vs, H1, I1, r, q⟩ => ⟨I1.kIn, ?_⟩) he hpl
 obtain ⟨tl, Na, nm, q', bs, hdct, sn, sub, ab, col, dc, k0, k1, k2, k3, k5, mN, hC, hN, hni, T⟩ := zd4 I1.kIn M.cls
 obtain ⟨oI, hoI, hcI⟩ := Option.map_eq_some_iff.mp (beq_iff_eq.mp M.fn)
 obtain ⟨hh, g, d, tk, os⟩ := s1
 refine zgq PySem.F.excBase_ValueError (by decide) PySem.F.excBase_ValueError T hC hN hni (I1.kIn f oI hoI) hcI (fun h' e' hs hmd => ?_) ?_
 ·have I2 := Inv.errMade (s:=⟨hh, g, d, tk, os⟩) (C:=C) I1 hs hmd
  have hq := q e' (I1.hok.fresh hs)
  have r2 : Vals (V.ref e' :: vs) (Value.ref e' :: us) := .cons rfl r
  have hl : (Value.ref e' :: us ++ []).length = ps.length := by
   have z := r2.length
   rw [F.len _ _ _ _ hq] at z
   rw [List.append_nil]; exact z.symm
  have hb' := hb ⟨h', g, d, tk, os⟩ (Value.ref e' :: us) I2.kIn hl
  rw [List.append_nil] at hb'
  refine wpAny_call (codeAny_mono (F.run _ X.stack _ _ ⟨Value.ref e' :: us, []⟩ (Value.ref e' :: us) _ _ E (hr.make C us []) (I2.env0.make C us []) hb' r2 hq) fun r s' hq' => ?_)
  cases r with
  | error e => exact hx pins σ _ _ e s' I2 hq'
  | ok fl =>
   cases fl with
   | ret u =>
    obtain ⟨v, H', I3, rv, ev, q3⟩ := I2.after hq'
    subst ev
    exact ⟨rv, ⟨V.ref e', H', I3, rfl, q3⟩⟩
   | next => exact False.elim hq'
   | brk => exact False.elim hq'
   | cont => exact False.elim hq'
 ·have z := q hh.objs.size (I1.hok.fresh (Nat.le_refl _))
  have z2 := F.len _ _ _ _ z
  have z3 : vs.length + 1 = ps.length := z2
  have z4 := r.length
  rw [sizeLine_eq, List.nil_append]; lia
end
theorem zef {M : Model} {A : Around} {E : Value -> Shared -> Prop} {s : Shared} {B : Heap} {l : List Env} {e : Addr} {C a0 : Value} {Q : Unit -> Shared -> Prop} (fl : Heap.FlyingW B l e C a0 s.heap)
  (h : ∀ h', Heap.FlyingW B l e C a0 h' -> s.heap.UpToSlots h' -> DK s.heap h' -> Q () { s with heap := h' }) : wpAny M A (setFlight (.ref e) none) Q E s := by
 refine wpAny_mono (zb0 (lands_againW (Q:=fun _ s' => ∃ h', s' = { s with heap := h' } /\ Heap.FlyingW B l e C a0 h' /\ s.heap.UpToSlots h') (E:=E) fl fun h' a b => ⟨h', rfl, a, b⟩) (znj (E:=E) fl.2.2.2.at)) (fun _ s' z => ?_) fun _ _ z => z.1
 obtain ⟨⟨h', rfl, a, b⟩, k⟩ := z
 exact h h' a b k
noncomputable def zh1 (x C : Addr) (dd : Option Addr) : HO := .ext fun h => ∃ o, h.get? x = some o /\ o.cls = .ref C /\ o.dict = dd /\ notCls o = true
section
variable {X : Cx} {pins : List (Addr × Obj)} {σ : St} {H : Hp} {s : Shared} {x : Addr}
theorem Inv.adoptX2 {C : Addr} {dd : Option Addr} (I : Inv X pins σ H s) (hn : H x = none) (h0 : X.s₀.heap.get? x = none) (hL : x ≠ X.env.locals) (hc : ∀ y c, X.env.cells.lookup y = some c -> c ≠ x) (hp : ∀ p ∈ X.pn ++ pins, p.1 ≠ x)
  (ho : ∃ o, s.heap.get? x = some o /\ o.cls = .ref C /\ o.dict = dd /\ notCls o = true) : Inv X pins σ (upd H x (zh1 x C dd)) s := by
 refine ⟨I.ok, I.os, I.bare, ⟨I.base.keep, I.base.slot, fun b o e n hx => ?_, I.base.there, fun b xs e => ?_, fun b o u e => ?_, fun b ps e => ?_⟩, I.loc, I.cell, ?_, fun y c e => ?_, fun p hq => ?_, fun b u e => ?_, I.len⟩
 ·have : b ≠ x := fun z => by rw [z, h0] at e; cases e
  rw [zaj this]; exact I.base.free b o e n hx
 ·have := I.base.tups b xs e
  rw [zaj (zam this hn)]; exact this
 ·have := I.base.frzs b o u e
  rw [zaj (zam this hn)]; exact this
 ·obtain ⟨more, this⟩ := I.base.tbls b ps e
  exact ⟨more, by rw [zaj (zam this hn)]; exact this⟩
 ·rw [zaj (Ne.symm hL)]; exact I.free
 ·rw [zaj (hc y c e)]; exact I.freeC y c e
 ·obtain ⟨e, n, ne, nf, d⟩ := I.pin p hq
  exact ⟨e, by rw [zaj (hp p hq)]; exact n, ne, nf, d⟩
 ·by_cases hb : b = x
  ·subst hb
   rw [zah] at e
   cases e
   obtain ⟨o, h1, h2⟩ := ho
   exact ⟨⟨o, h1, h2⟩, ⟨o, h1⟩, fun h1 h2 ⟨o, ho, r⟩ k => ⟨o, k o ho, r⟩⟩
  ·rw [zaj hb] at e
   exact (I.hok b u e).stay (fun _ _ _ q => q) (fun c q => by rw [zaj (zam q hn)]; exact q) fun c xs q => by rw [zaj (zam q hn)]; exact q
noncomputable def zg4 (K : PySem.W.Frag) (sp : Sp) (ta : TA) (i : Nat) (CF : Addr) (ts : TS) : TS := fun D σ H => ta σ H fun vs H1 => sp vs H1 (fun _ H2 => D.nx σ H2) (fun cls dd H2 => ∃ C, cls = .ref C /\ exmOne K (.ref C) (.ref CF) = some true /\ ∀ x, H2 x = none ->
 ts { nx := fun σ' H' => ∃ v, σ'[i]? = some (some v) /\ D.nx (σ'.set i none) H', rt := fun _ _ => False } (σ.set i (some (.ref x))) (upd H2 x (zh1 x C dd)))
theorem zn3 {c : Bool} {CF : Addr} {cn n : Str} {np hp : Pos} {i : Nat} {b₀ : Stmt} {suite : List Stmt} {ts : TS} {D : Ends} {H1 : Hp} {s1 s2 : Shared} {ev : Value} (I1 : Inv X pins σ H1 s1)
  (hgc : Gl X cn) (hmc : X.mg cn = some (.ref CF)) (hN : X.N.Nodup) (hi : X.N[i]? = some n) (hx : X.env.scope.names.lookup n = some .local) (hs : ∀ x, PSs (X.inSuite x) (b₀ :: suite) ts) (hst : X.stack = X.env :: X.outer /\ X.env.frame = some X.env.locals /\ X.ex = [])
  (hq : CXB c X.prog X.w X.stack H1 s1 (fun cls dd H2 => ∃ C, cls = .ref C /\ exmOne X.K (.ref C) (.ref CF) = some true /\ ∀ x, H2 x = none ->
   ts { nx := fun σ' H' => ∃ v, σ'[i]? = some (some v) /\ D.nx (σ'.set i none) H', rt := fun _ _ => False } (σ.set i (some (.ref x))) (upd H2 x (zh1 x C dd))) ev s2) (hdc : (cn == ("__debug__" : Str)) = false) :
  wpAny (model X.prog X.w) X.A (noteFrame ev X.env) (fun _ s3 => wpAny (model X.prog X.w) X.A (setFlight ev none) (fun _ s4 => wpAny (model X.prog X.w) X.A (handleBy ev X.env [.ExceptHandler (some (.Name cn np)) (some n) (b₀ :: suite) hp]) (SP X pins D) X.xe s4) X.xe s3) X.xe s2 := by
 obtain ⟨x, C, a0, B, H2, dd, rfl, os, bare, U, hok, fl, c1, c2, nx, hxn, di, C', eC, hex, q2⟩ := hq
 cases eC
 have fl0 : Heap.FlyingW B (X.env :: X.outer) x (.ref C) a0 s2.heap := by rw [<- hst.1]; exact fl
 have hfr : X.A.frames = some (X.env :: X.outer) := by rw [<- hst.1]; exact I1.ok.frames
 have ff : ∀ b ∈ frs X.stack, ∃ o, s2.heap.get? b = some o /\ ∀ vs, o.data ≠ .fields vs := fun b hb => (fl.2.2.1.mem (b:=b) hb).2
 show wpAny _ _ (noteFrame (.ref x) X.env) _ _ s2
 refine zfq hfr hst.2.1 fl0 fun h3 held up3 dk3 => ?_
 refine zks (s:={ s2 with heap := h3 }) held fun h4 fl4 up4 dk4 => ?_
 have inv : ∀ {h' : Heap}, B.StaysIn h' -> s2.heap.UpToSlots h' -> Inv X pins σ H2 { s2 with heap := h' } := fun {h'} st up =>
  I1.call' (s':={ s2 with heap := h' }) (ch:=[]) os (U.fly fl.1 st c1 up ff) (hok.fly c2 fl.1 st) bare (fun b z => nomatch z)
 have I4 := inv fl4.1 (up3.trans up4)
 obtain ⟨ob4, hob4, hcl4⟩ := fl4.there
 refine wpAny_handleBy_cons (codeAny_handlers_test (zc2 (X:=X.inSuite x) (I4.inSuite x) hgc hmc ?_ hdc)) (by intro q; cases q)
 have LT : Looks (model X.prog X.w) h4 (typeOf (.ref x)) (.ref C) := by rw [<- hcl4]; exact (Looks.ld hob4).andThen .now
 refine Looks.here (s:={ s2 with heap := h4 }) (exm_one (M:=model X.prog X.w) I4.kIn LT hex) ?_
 refine codeAny_handlers_suite_as ?_
 refine zef (s:={ s2 with heap := h4 }) fl4 fun h5 fl5 up5 dk5 => ?_
 have I5 := inv fl5.1 ((up3.trans up4).trans up5)
 have h0 : X.s₀.heap.get? x = none := by
  cases z : X.s₀.heap.get? x with
  | none => rfl
  | some o =>
   obtain ⟨o', e'⟩ := I1.base.there x o z (by rw [hst.2.2]; exact fun z => nomatch z)
   rw [nx] at e'; cases e'
 have I6 : Inv X pins σ (upd H2 x (zh1 x C dd)) { s2 with heap := h5 } := by
  refine I5.adoptX2 hxn h0 ?_ ?_ ?_ ?_
  ·obtain ⟨m, ⟨o, _, _, ho, _⟩, _⟩ := I1.loc
   exact fun z => by rw [z, ho] at nx; cases nx
  ·intro y c e z
   obtain ⟨v, o, ho, _⟩ := I1.cell y c e
   rw [z, nx] at ho; cases ho
  ·intro p' hp' z
   have := (I1.pin p' hp').1
   rw [z, nx] at this; cases this
  ·obtain ⟨_, _, _, o, vs5, _, _, _, ho, ⟨hc, _⟩, hd5, _⟩ := fl5
   obtain ⟨o', ho', hd', _⟩ := ((dk3.trans dk4).trans dk5).is di
   have ho : h5.get? x = some o := ho
   rw [ho] at ho'; cases ho'
   exact ⟨o, ho, hc, hd', by unfold notCls; rw [hd5]⟩
 refine ze8 (X:=X.inSuite x) (i:=i) (v:=.ref x) (I6.inSuite x) hN hi (.inl hx) rfl (fun s7 I7 => ?_) (.inr hx)
 refine wpAny_mono (hs x pins s7 (σ.set i (some (.ref x))) _ _ I7 (q2 x hxn)) (fun f' s8 h8 => ?_) fun _ _ z => z.elim
 cases f' with
 | next =>
  obtain ⟨σ8, H8, I8, v8, hv8, q8⟩ := h8
  have I8 := I8.outSuite I1.ok
  show wpAny _ _ (do bindName X.env n .none; unbindBehindTheSuite X.env n hp) _ _ s8
  refine wpAny_bind (wpAny_bindName (ze8 (i:=i) (v:=.non) I8 hN hi (.inl hx) rfl (fun s9 I9 => ?_) (.inr hx)))
  have hl8 : i < σ8.length := (List.getElem?_eq_some_iff.mp hv8).1
  unfold unbindBehindTheSuite
  refine wpAny_onRaise (zmj (i:=i) (v:=.non) I9 hN hi hx (List.getElem?_set_self hl8) fun s10 I10 => ?_)
  rw [List.set_set] at I10
  exact ⟨_, H8, I10, q8⟩
 | ret u => obtain ⟨_, _, _, _, _, z⟩ := h8; exact z.elim
 | brk => obtain ⟨_, _, _, z⟩ := h8; exact z.elim
 | cont => obtain ⟨_, _, _, z⟩ := h8; exact z.elim
end
theorem xat2 {x C : Addr} {dd : Option Addr} {h : Heap} (p : ∃ o, h.get? x = some o /\ o.cls = .ref C /\ o.dict = dd /\ notCls o = true) : XAt x C h := let ⟨o, a, b, _⟩ := p; ⟨o, a, b⟩
noncomputable def zjv (K : PySem.W.Frag) : List V -> Hp -> VK -> Prop := fun xs H Q => ∃ x C dd c b, H x = some (zh1 x C dd) /\ XTell K C /\ ((∃ D, xs = [.ref x, .ref D] /\ c = Value.ref D) \/ (∃ T, xs = [.ref x, .ty T] /\ c = Value.type T)) /\ kitOne K (.ref C) c = some b /\ Q (.bl b) H
section
open PySem.Calls Builtin Builtin.ObjectAttr
variable {X : Cx}
theorem zda : zco X (.builtin "isinstance") (zjv X.K) := by
 intro pins s σ H xs us Q I r h
 obtain ⟨x, C, dd, c, b, hx, T, hc, hk, q⟩ := h
 have hp : XAt x C s.heap := xat2 (I.hok x _ hx).1
 obtain ⟨u, v, rfl, hu, hv⟩ : ∃ u v, us = [u, v] /\ u = .ref x /\ v = c := by
  rcases hc with ⟨D, rfl, rfl⟩ | ⟨T', rfl, rfl⟩
  ·obtain ⟨u, v, rfl, ru, rv⟩ := zi5 r
   exact ⟨u, v, rfl, ru, rv⟩
  ·obtain ⟨u, v, rfl, ru, rv⟩ := zi5 r
   exact ⟨u, v, rfl, ru, rv⟩
 subst hu hv
 exact kia_one (zod T) I.kIn hp hk (by intro z; cases z) fun tk => ⟨.bl b, H, I.tok _, rfl, q⟩
theorem zqt {prog : Program} {w : World} {A : Around} {E : Value -> Shared -> Prop} {s : Shared} {K : PySem.W.Frag} {x C dx : Addr} {mA : Str -> Option Value} {name : Str} {v : Value} {ex : Bool} {Q : Value -> Shared -> Prop} (X : K.In s.heap) (T : XTell K C) (ha : findIn K (.ref C) name = some none)
  (p : ∃ o, s.heap.get? x = some o /\ o.cls = .ref C /\ o.dict = some dx /\ notCls o = true) (n : s.heap.Ns1 dx mA) (hv : mA name = some v) (hv' : handedIn v = true) (q : Q v { s with toks := s.toks + 1 }) : wpAny (model prog w) A (getAttr (.ref x) name ex) Q E s := by
 obtain ⟨hh, g, d, t, os⟩ := s
 obtain ⟨od, hod, hl⟩ := zin n
 obtain ⟨o, ho, hc, hd, hn⟩ := id p
 have J : InstAt hh x o C (some od) := ⟨ho, hc, hn, by rw [hd]; exact hod⟩
 have L0 := (xat2 p).ty (M:=model prog w); have L1 := looks_findIn (M:=model prog w) X T.ga; have L2 := looks_findIn (M:=model prog w) X T.gt
 have L3 := looks_find (M:=model prog w) X J (findObj_own T.dc ha rfl (by rw [hl, hv])); have L4 := looks_mroIn (M:=model prog w) X T.mb
 have hbd := F.attr_ValueError.ga.bind (.ref x)
 have hk : builtinKind "BaseException.__getattribute__" = some .slot := by decide +kernel
 have hs : splitId "BaseException.__getattribute__" = some ("BaseException", "__getattribute__") := by decide +kernel
 unfold getAttr getAttrBy; refine wpAny_bind (wpAny_mkText (wpAny_holding (wpAny_bind (L0.at (wpAny_bind (L1.at ?_))))))
 show wpAny _ _ (if (_ && _) then _ else _) _ _ _
 rw [if_neg (by rw [Bool.and_eq_true]; intro z; exact absurd z.2 (by decide +kernel))]
 unfold getAttrByItsOwn
 refine wpAny_bind ((show Looks _ _ (hookBefore (.ref C)) none from L2).at (wpAny_bind (wpAny_attempt (wpAny_holding ?_))))
 unfold callGetattribute boundAndCalled
 rw [if_neg (by intro z; rw [Bool.and_eq_true] at z; exact absurd z.2 (by decide +kernel)), hbd]
 refine wpAny_bind (wpAny_pure (wpAny_call ?_))
 refine codeAny_call_builtin F.attr_ValueError.ga.plain F.entry_bexc_ga ?_
 have hao := F.args_bexc_ga (.ref x) (.str name t)
 simp only [checkBuiltinCall, hk, hs]; unfold isInstance
 repeat lk
 exact handed_on hv' q
noncomputable def zmh (K : PySem.W.Frag) (te : TE) (f : Str) : TE := fun σ H Q => te σ H fun v H1 => ∃ x C dx fs u, v = .ref x /\ H1 x = some (zh1 x C (some dx)) /\ H1 dx = some (.xd fs) /\ XTell K C /\ zbu K C f /\ fs.lookup f = some u /\ Q u H1
theorem zir {e : Expr} {te : TE} {f : Str} {pos : Pos} (he : PE X e te) (hb : attributeBase e f X.env (eval e X.env) = eval e X.env) : PE X (.Attribute e f pos) (zmh X.K te f) := by
 intro pins s σ H Q I h
 refine zns hb (thn (he pins s σ H _ I h) fun u s1 hz9 => ?_)
 obtain ⟨v, H1, I1, rv, x, C, dx, fs, y, ev, hx, hd, T, n, l, q⟩ := hz9
 subst ev
 obtain rfl : u = Value.ref x := rv
 obtain ⟨mA, ns, r⟩ := I1.hok dx _ hd
 obtain ⟨z, hz, rz⟩ := RelO.some_of (v:=y) (o:=mA f) (by rw [<- l]; exact r f)
 exact zqt I1.kIn T n (I1.hok x _ hx).1 ns hz (zil rz) ⟨y, H1, I1.tok _, rz, q⟩
end
end L2
namespace L2
open PySem PySem.W PyProof.Rows
noncomputable def zi8 (C : Addr) (f : Str) : Sp := fun vs H Q _ => ∃ (e : Addr) (n : Int), vs = [.ref e, .int n] /\ 0 <= n /\ n < 1000000 /\ H e = some (ErrO e C none) /\ ∀ dx, H dx = none -> dx ≠ e -> Q .non (upd (upd H e (ErrO e C (some dx))) dx (.xd [(f, .int n)]))
theorem zib {K : PySem.W.Frag} {C fI : Addr} {f a b x y : Str} {vs : List V} {H : Hp} {Q : VK} {E : XK} (M : zht K C fI) (S : XStore K C f) (ha : (Str.empty ++ a).length <= 1000) (hb : b.length <= 1000) (h : zi8 C f vs H Q E) :
  tSeq (zqs (zkl K (zbf (tVar 0) (zbf (tFsI a b (tVar 1)) tNil)))) (zl3 K (tVar 0) (tVar 1) f) { nx := fun _ H' => Q .non H', rt := Q } (start [x, y] vs) H := by
 obtain ⟨e, n, rfl, hn0, hn, he, q⟩ := h
 have hl : ((toString n : String) : Str).length <= 6 := toString_length_le hn0 (by decide) (by lia)
 have app : ∀ u v : Str, (u ++ v).length = u.length + v.length := fun u v => Str.length_append u v
 refine ⟨.ref e, rfl, by rw [sizeLine_eq]; lia, .int n, rfl, n, rfl, ?_, by rw [app, sizeLine_eq]; lia, by rw [app, app, sizeLine_eq]; lia, e, C, none, _, rfl, he, ⟨fI, M⟩, .int n, rfl, .ref e, rfl, e, C, rfl, he, S, fun dx h1 h2 => q dx h1 h2⟩
 have h3 : n.natAbs < 2 ^ 1920 := Nat.lt_of_lt_of_le (show n.natAbs < 2 ^ 20 by lia) (Nat.pow_le_pow_right (by decide) (by decide))
 by_cases hz : n.natAbs = 0
 ·rw [hz]; decide
 ·exact (Nat.log2_lt hz).mpr h3
noncomputable def SpX (K : PySem.W.Frag) (C : Addr) (f : Str) (pre bad : List D -> Prop) (res err : List D -> D) : Sp := fun vs H Q E => ∃ G ds, Same G H /\ Reps K G ds vs /\ pre ds /\
 (¬ bad ds -> ∀ v G' H', Ext G H G' H' -> Rep K G' (res ds) v -> Q v H') /\ (bad ds -> ∀ dx v G' H', Ext G H G' H' -> G' dx = some (.xd [(f, v)]) -> Rep K G' (err ds) v -> E (.ref C) (some dx) H')
noncomputable def RtX2 (K : PySem.W.Frag) (G H₀ : Hp) (E : XK) (C : Addr) (f : Str) (d : D) : Prop := ∀ dx v F H', Ext G H₀ F H' -> F dx = some (.xd [(f, v)]) -> Rep K F d v -> E (.ref C) (some dx) H'
noncomputable def xsl2 (K : PySem.W.Frag) (x C dx : Addr) (f : Str) (d : D) : Sl := .g (.ref x) [] fun F _ => F x = some (zh1 x C (some dx)) /\ ∃ v, F dx = some (.xd [(f, v)]) /\ Rep K F d v
section
variable {K : PySem.W.Frag} {H : Hp} {vs : List V} {Q : VK} {E : XK} {N : List Str} {t : TS} {C : Addr} {f : Str} {pre bad : List D -> Prop} {res err : List D -> D}
theorem zdi {n : Nat} (hpre : ∀ ds, pre ds -> ds.length = n) (h : SpX K C f pre bad res err vs H Q E) : vs.length = n := by
 obtain ⟨G, ds, sm, r, hp, q⟩ := h
 rw [<- r.length]; exact hpre ds hp
theorem zkt (h : SpX K C f pre bad res err vs H Q E) (hN : vs.length <= N.length) (body : ∀ G ds, pre ds -> (¬ bad ds -> RtD K G H Q (res ds)) -> (bad ds -> RtX2 K G H E C f (err ds)) -> Go K G H G { nx := fun _ H' => Q .non H', rt := Q } (slots N.length ds) t) :
  t { nx := fun _ H' => Q .non H', rt := Q } (start N vs) H := by
 obtain ⟨G, ds, sm, r, hp, q1, q2⟩ := h
 exact body G ds hp (fun nb v F H' e h4 => q1 nb v F H' e h4) (fun b dx v F H' e h1 h2 => q2 b dx v F H' e h1 h2) G H _ (zcu sm r hN)
end
theorem znk (K : PySem.W.Frag) (x C dx : Addr) (f : Str) (d : D) : Stab [] fun F _ => F x = some (zh1 x C (some dx)) /\ ∃ v, F dx = some (.xd [(f, v)]) /\ Rep K F d v :=
 fun F1 H1 F2 H2 sf _ ⟨a, v, b, c⟩ => ⟨sf _ _ a, v, sf _ _ b, c.mono sf⟩
section
variable {K : PySem.W.Frag} {G H₀ L : Hp} {ss : List Sl} {ta tb te : TE} {t : TA} {ds : List D} {D0 : Ends} {E E' : XK} {C fI : Addr} {f : Str} {pre bad : List D -> Prop} {res err : List D -> D}
theorem zde {n : Int} (M : zht K C fI) (a : EvAF K G H₀ L ss t [.int n]) (hn0 : 0 <= n) (hn : n < 1000000) (h : RtX2 K G H₀ E C f (.int n)) : Go K G H₀ L D0 ss (znt K E H₀ (zh0 C (zi8 C f) E' t)) := fun F H σ S =>
 a F H σ _ S fun vs F1 H1 e1 r1 => by
  rw [Reps] at r1
  obtain ⟨v1, r, rfl, rv1, r1⟩ := r1
  rw [Reps] at r1
  subst r1
  rw [rv1.of_int]
  intro e he
  refine ⟨e, n, rfl, hn0, hn, zah, fun dx hdx hne => ⟨rfl, e, C, some dx, rfl, ?_, ?_, ⟨fI, M⟩, ?_⟩⟩
  ·rw [zaj (Ne.symm hne), zah]
  ·exact (S.ext.trans e1).hh.free he
  ·have hd1 : H1 dx = none := by rw [zaj hne] at hdx; exact hdx
   have eH : del (upd (upd (upd H1 e (ErrO e C none)) e (ErrO e C (some dx))) dx (.xd [(f, .int n)])) e = upd H1 dx (.xd [(f, .int n)]) := by
    funext b
    by_cases hb : b = e
    ·rw [hb, zdn, zaj (Ne.symm hne), he]
    ·rw [zdw hb]
     by_cases hc : b = dx
     ·rw [hc, zah, zah]
     ·rw [zaj hc, zaj hc, zaj hb, zaj hb]
   rw [eH]
   exact h dx (.int n) _ _ ((S.ext.trans e1).newF (o:=.xd [(f, .int n)]) hd1) zah Rep.int
theorem zdf (a : EvAF K G H₀ L ss t ds) (hp : pre ds) (hb : ¬ bad ds) : Ev K G H₀ L ss (zex (SpX K C f pre bad res err) [] E t) (res ds) := fun F H σ Q S q =>
 a F H σ _ S fun vs F1 H1 e1 r1 => ⟨F1, ds, e1.fh, by rw [List.append_nil]; exact r1, hp, fun _ v G' H' e2 r => q _ _ _ (e1.trans e2) r, fun b => absurd b hb⟩
theorem zg3 (a : EvAF K G H₀ L ss t ds) (hp : pre ds) (hb : bad ds) (hx : RtX2 K G H₀ E C f (err ds)) : EvR K G H₀ L ss (zex (SpX K C f pre bad res err) [] E t) := fun F H σ Q S =>
 a F H σ _ S fun vs F1 H1 e1 r1 => ⟨F1, ds, e1.fh, by rw [List.append_nil]; exact r1, hp, fun nb => absurd hb nb, fun _ dx v G' H' e2 h1 h2 => hx dx v G' H' ((S.ext.trans e1).trans e2) h1 h2⟩
theorem zkr {i j : Nat} {CF : Addr} (a : EvAF K G H₀ L ss t ds) (hp : pre ds) (hb : bad ds) (hex : exmOne K (.ref C) (.ref CF) = some true) (hij : i ≠ j) (hil : i < ss.length) (hjl : j < ss.length)
  (h : ∀ x dx, Nx K G H₀ L D0.nx ((ss.set i .un).set j (xsl2 K x C dx f (err ds)))) : Go K G H₀ L D0 ss (zg4 K (SpX K C f pre bad res err) t i CF (tAsg (tVar i) (zgh j))) := fun F H σ S =>
 a F H σ _ S fun vs F1 H1 e1 r1 => by
  refine ⟨F1, ds, e1.fh, r1, hp, fun nb => absurd hb nb, fun _ dx v F2 H2 e2 hdx rv => ⟨C, rfl, hex, fun x hx => ?_⟩⟩
  have e3 := e1.trans e2
  have S2 := S.ext2 e3
  have hσ : i < σ.length := by rw [S.len]; exact hil
  refine ⟨.ref x, List.getElem?_set_self hσ, ?_⟩
  have g1 : ((σ.set i (some (V.ref x))).set j (some (V.ref x)))[i]? = some (some (V.ref x)) := by rw [List.getElem?_set_ne (Ne.symm hij)]; exact List.getElem?_set_self hσ
  refine ⟨.ref x, g1, ?_⟩
  have eσ : ((σ.set i (some (V.ref x))).set j (some (V.ref x))).set i none = (σ.set i none).set j (some (V.ref x)) := by
   rw [List.set_comm _ _ hij, List.set_set, List.set_comm _ _ (Ne.symm hij)]
   first | rfl | skip
  rw [eσ]
  have S3 : Sat K G H₀ L F2 H2 (σ.set i none) (ss.set i .un) := S2.put S2.ext S2.fl (by simp) (fun j hj => zcz (Ne.symm hj)) (fun _ => trivial) (by simp [Sl.ads]) (fun _ _ _ _ p hp => by simp [Sl.ads] at hp) fun j s' _ h => S2.ok j s' h
  have e := (Ext.refl S3.ext.fh).newF (o:=zh1 x C (some dx)) hx
  have S4 := S3.ext2 e
  have fx : F2 x = none := S3.ext.fh.free hx
  refine h x dx _ _ _ (S4.put S4.ext S4.fl (by simp) (fun k hk => zcz (Ne.symm hk)) (fun hk => ?_) (by simp [xsl2, Sl.ads]) (fun k s' hk hs q hq => by simp [xsl2, Sl.ads] at hq) fun k s' hk hs => S4.ok k s' hs)
  rw [zc1 (by rw [S3.len]; exact hk)]
  exact ⟨rfl, (fun a ha => absurd ha List.not_mem_nil), ⟨zah, v, by rw [zaj (zam hdx fx)]; exact hdx, rv.mono e.gf⟩, znk K x C dx f _⟩
theorem zft {j : Nat} {x dx : Addr} {d : D} {c : Value} {cv : V} {b : Bool} (hs : ss[j]? = some (xsl2 K x C dx f d)) (T : XTell K C) (hc : (∃ D, cv = .ref D /\ c = Value.ref D) \/ (∃ T, cv = .ty T /\ c = Value.type T)) (hk : kitOne K (.ref C) c = some b) :
  Ev K G H₀ L ss (tCB (zjv K) (zbf (tVar j) (zbf (tC cv) tNil))) (.bl b) := fun F H σ Q S q => by
 obtain ⟨v, e, ew, ha, hw, st⟩ := S.get hs (by intro z; cases z)
 cases ew
 refine ⟨_, e, x, C, _, c, b, S.ext.fh _ _ hw.1, T, ?_, hk, q _ _ _ (Ext.refl S.ext.fh) Rep.bl⟩
 rcases hc with ⟨D, rfl, rfl⟩ | ⟨T', rfl, rfl⟩
 ·exact .inl ⟨D, rfl, rfl⟩
 ·exact .inr ⟨T', rfl, rfl⟩
theorem zh7 {j : Nat} {x dx : Addr} {d : D} (hs : ss[j]? = some (xsl2 K x C dx f d)) (T : XTell K C) (n : zbu K C f) : Ev K G H₀ L ss (zmh K (tVar j) f) d := fun F H σ Q S q => by
 obtain ⟨v, e, ew, ha, ⟨hx, y, hd, ry⟩, st⟩ := S.get hs (by intro z; cases z)
 cases ew
 exact ⟨_, e, x, C, dx, [(f, y)], y, rfl, S.ext.fh _ _ hx, S.ext.fh _ _ hd, T, n, by simp [List.lookup], q _ _ _ (Ext.refl S.ext.fh) ry⟩
end
section
variable {P : Program} {w : World} {K : PySem.W.Frag} {mg : Str -> Option Value} {base : Heap}
theorem Fun.okX2 {c : Bool} {x qual : Str} {st : Stmt} {f : Addr} {fd : FuncData} {N ps : List Str} {k : Nat} {sp : Sp} (F : Fun K x qual st f fd) (S : FnScope N ps (zac st)) (len : ∀ vs H Q E, sp vs H Q E -> vs.length = ps.length)
  (hbody : ∀ (cdv : Value) (A : Around) (outer : List Env) (s : Shared) (H : Hp) (vs : List V) (Q : VK) (E : XK), Room k (A.deeper (envOfC qual (zac st) s.heap.objs.size f cdv)) -> sp vs H Q E ->
   ∃ t, PSs (cxOf (CXB c P w) P w K mg base N qual (zac st) f cdv A outer s H E) (zan st) t /\ t { nx := fun _ H' => Q .non H', rt := Q } (start N vs) H) : FnOk P w K mg base (CXB c P w) (k + 1) f fd ps sp := by
 obtain ⟨oc, od, kV, doc, pm, an, cdv, ct, osl, rfl, lk, hcd⟩ := F.ex
 exact zrb lk hcd S len fun A outer s H vs Q E hr hsp => hbody cdv A outer s H vs Q E hr hsp
end
end L2
namespace L2
open PySem PySem.W PyProof.Rows
end L2
namespace L2
open PySem PySem.W PySem.Spec PyProof.Rows
end L2
namespace L2
open PySem PySem.W PySem.Spec PyProof.Rows
end L2
namespace L2
open PySem PySem.W PySem.Spec PyProof.Rows
end L2
namespace L2
open PySem PySem.Spec PyProof.Rows
structure RoomH (k : Nat) (A : Around) : Prop where
 dp : A.depth + 3 * k + 5 < recursionLimit
 un : A.units + 16 * k + 200 < cLine
 gd : A.guards = some []
theorem RoomH.mono {j k : Nat} {A : Around} (r : RoomH k A) (h : j <= k) : RoomH j A := ⟨by have := r.dp; lia, by have := r.un; lia, r.gd⟩
theorem RoomH.deeper {k : Nat} {A : Around} (r : RoomH (k + 1) A) (env : Env) : RoomH k (A.deeper env) :=
 ⟨by have := r.dp; show A.depth + 1 + 3 * k + 5 < _; lia, by have := r.un; show A.units + 3 + 16 * k + 200 < _; lia, r.gd⟩
theorem RoomH.make {k : Nat} {A : Around} (r : RoomH (k + 1) A) (C : Addr) (us : List Value) (kw : List (Str × Value)) : RoomH k (A.under (.builtin "type.__call__" ⟨.ref C :: us, kw⟩)) :=
 ⟨by have := r.dp; rw [zgw]; lia, by have := r.un; rw [zgx]; lia, r.gd⟩
theorem RoomH.depth {k : Nat} {A : Around} (r : RoomH k A) : A.depth < recursionLimit := by have := r.dp; lia
theorem Room.mark {k : Nat} {A : Around} (r : Room k A) (h : Option Value) : RoomH k (A.mark h) := ⟨r.dp, r.un, r.gd⟩
structure FnOkH (P : Program) (w : World) (K : PySem.W.Frag) (mg : Str -> Option Value) (base : Heap) (CX : CXT) (k : Nat) (f : Addr) (fd : FuncData) (ps : List Str) (sp : Sp) : Prop where
 len : ∀ vs H Q E, sp vs H Q E -> vs.length = ps.length
 run : ∀ (A : Around) (outer : List Env) (s : Shared) (H : Hp) (args : Args) (us : List Value) (vs : List V) (Q : VK) (E : XK), RoomH k A -> Env0 P w K mg base A outer s H -> BindsTo s fd args (ps.zip us) -> Vals vs us -> sp vs H Q E ->
  codeAny (model P w) A (.call (.ref f) args) (CR CX outer P w H s Q E) s
noncomputable def zlq (CX : CXT) (P : Program) (w : World) (K : PySem.W.Frag) (mg : Str -> Option Value) (base : Heap) (N : List Str) (qual : Str) (scope : Scope) (f : Addr) (cd : Value) (A : Around) (outer : List Env) (s : Shared) (H : Hp) (E : XK) : Cx :=
 { cxOf CX P w K mg base N qual scope f cd A outer s H E with calm := false }
theorem zlm {CX : CXT} {P : Program} {w : World} {K : PySem.W.Frag} {mg : Str -> Option Value} {base : Heap} {N ps : List Str} {qual : Str} {scope : Scope} {f : Addr} {cd : Value} {A : Around} {outer : List Env} {s s1 : Shared} {H : Hp} {E : XK} {us : List Value} {vs : List V}
  (S : FnScope N ps scope) (e0 : Env0 P w K mg base A outer s H) (hl : vs.length = ps.length) (r : Vals vs us)
  (x : InCallC s s.heap.objs.size (bindL (envOfC qual scope s.heap.objs.size f cd).kindOf (ps.zip us) fun _ => none) (cellsFrom (s.heap.objs.size + 1) scope.names []) (bindC (envOfC qual scope s.heap.objs.size f cd).kindOf (ps.zip us) fun _ => none) s1) :
  Inv (zlq CX P w K mg base N qual scope f cd A outer s H E) [] (start N vs) H s1 := by
 have hpl : ps.length <= N.length := by have := congrArg List.length S.pre; rw [List.length_take] at this; lia
 obtain ⟨h1, tk, rfl, hk⟩ := x.done
 have noA : ∀ b : Addr, b ∉ (zlq CX P w K mg base N qual scope f cd A outer s H E).ex := fun b z => absurd (show b ∈ ([] : List Addr) from z) (by simp)
 refine ⟨⟨e0.mod, S.kind, rfl, rfl, Nat.le_refl _, fun y z c h1 h2 => ?_, fun y hy => ?_, fun y c _ h => ?_, fun z => (by cases z), Around.frames_deeper e0.frames, .inr ⟨rfl, rfl⟩, fun b z => absurd z (noA b), e0.bs, e0.bsz, fun b _ _ => noA b, fun b z => absurd z (noA b), e0.funs, e0.frf⟩,
  rfl, e0.bare, Un.kept hk, ⟨_, x.toInCall.ns, fun i y v h1 h2 h3 => ?_⟩, fun y c h => ⟨_, x.cell y c h⟩, e0.hok.fresh (Nat.le_refl _), fun y c h => ?_, fun p hp => absurd (show p ∈ ([] : List (Addr × Obj)) from hp) (by simp), e0.hok.kept hk, ?_⟩
 ·exact name_of_addr x.apart (PySem.mem_of_lookup h1) (PySem.mem_of_lookup h2)
 ·have hy : scope.names.lookup y = some .cell \/ scope.names.lookup y = some .free := hy
  rcases hy with hy | hy
  ·exact zfb hy
  ·exact absurd rfl (S.nofree _ (PySem.mem_of_lookup hy))
 ·exact Nat.le_of_lt (x.above y c (PySem.mem_of_lookup h))
 ·have hi : i < vs.length := by
   unfold start at h2
   by_cases hi : i < vs.length
   ·exact hi
   ·rw [List.getElem?_append_right (by simpa using hi)] at h2
    rw [List.getElem?_replicate] at h2
    split at h2 <;> cases h2
  have ha : vs[i]? = some v := by
   unfold start at h2
   rw [List.getElem?_append_left (by simpa using hi), List.getElem?_map] at h2
   cases e : vs[i]? with
   | none => rw [e] at h2; cases h2
   | some a => rw [e] at h2; cases h2; rfl
  obtain ⟨u, hu, rv⟩ := r.get ha
  have hp : ps[i]? = some y := by
   rw [<- S.pre, List.getElem?_take_of_lt (by lia)]; exact h1
  have ndP : ps.Nodup := by rw [<- S.pre]; exact S.nd.sublist (List.take_sublist _ _)
  refine ⟨u, rv, ?_⟩
  rcases S.par y (List.mem_of_getElem? hp) with k | k
  ·exact .inl ⟨k, zf1 ndP hp hu k⟩
  ·obtain ⟨c, e⟩ := zfb (n:=s.heap.objs.size + 1) k
   refine .inr ⟨.inl k, c, e, ?_⟩
   have q := x.cell y c e
   rw [zfg ndP hp hu (by show scope.names.lookup y ≠ _; rw [k]; decide)] at q
   exact q
 ·exact e0.hok.fresh (Nat.le_of_lt (x.above y c (PySem.mem_of_lookup h)))
 ·unfold start
  show _ = N.length
  rw [List.length_append, List.length_map, List.length_replicate]
  lia
theorem zsa {CX : CXT} {P : Program} {w : World} {K : PySem.W.Frag} {mg : Str -> Option Value} {base : Heap} {k : Nat} {f : Addr} {name qual : Str} {params : Arguments} {body : List Stmt} {scope : Scope} {dV kV doc pm cdv ct oc : Value} {an od : Option Addr}
  {osl : Array (Option Value)} {N ps : List Str} {sp : Sp} (lk : K.lookup f = some ⟨oc, od, .func (PySem.W.fnOf name qual params body scope dV kV doc pm an cdv ct), osl⟩) (hcd : PySem.W.codeIn K cdv qual = true) (S : FnScope N ps scope)
  (len : ∀ vs H Q E, sp vs H Q E -> vs.length = ps.length)
  (hbody : ∀ (A : Around) (outer : List Env) (s : Shared) (H : Hp) (vs : List V) (Q : VK) (E : XK), RoomH k (A.deeper (envOfC qual scope s.heap.objs.size f cdv)) -> sp vs H Q E ->
   ∃ t, PSs (zlq CX P w K mg base N qual scope f cdv A outer s H E) body t /\ t { nx := fun _ H' => Q .non H', rt := Q } (start N vs) H) :
  FnOkH P w K mg base CX (k + 1) f (PySem.W.fnOf name qual params body scope dV kV doc pm an cdv ct) ps sp := by
 refine ⟨len, fun A outer s H args us vs Q E hr e0 hb r hsp => ?_⟩
 have hl := len _ _ _ _ hsp
 have KX : K.In s.heap := e0.mod.kin.keeps fun b o e => (e0.bs b o e).1
 have lim : s.heap.NoLimit := e0.mod.nolimit.keeps fun b o e => (e0.bs b o e).1
 have hkind : ∀ y ∈ ps.zip us, scope.names.lookup y.1 = some .local \/ (scope.names.lookup y.1 = some .cell /\ ((cellsFrom (s.heap.objs.size + 1) scope.names []).lookup y.1).isSome = true) := fun ⟨n, v⟩ hy => by
  rcases S.par n (List.of_mem_zip hy).1 with q | q
  ·exact .inl q
  ·exact .inr ⟨q, PySem.W.cellsFrom_some _ _ _ (.inl q)⟩
 refine codeAny_call_function hr.depth (KX _ _ lk) rfl S.co S.gen rfl (PySem.W.codeRec_of KX hcd) (hb _ _ _ _ ?_)
 refine wpAny_newFunctionEnv_cells S.kind hkind fun env he s1 x => ?_
 subst he
 refine ⟨lim.keeps x.toInCall.keep, codeAny_func ?_⟩
 obtain ⟨t, ht, hq⟩ := hbody A outer s H vs Q E (hr.deeper _) hsp
 have I : Inv (zlq CX P w K mg base N qual scope f cdv A outer s H E) [] (start N vs) H s1 := zlm S e0 hl r x
 refine wpAny_mono (ht [] s1 (start N vs) H _ I hq) (fun fl s' hs => ?_) fun e s' hs => hs
 have fin : ∀ {σ' : St} {H' : Hp} {v : V} {u : Value}, Inv (zlq CX P w K mg base N qual scope f cdv A outer s H E) [] σ' H' s' -> RelV v u -> Q v H' -> CE outer P w H s Q u s' :=
  fun {σ' H' v u} J rv q => ⟨v, H', J.os, J.bare, J.base, J.hok, rv, q⟩
 cases fl with
 | ret u =>
  obtain ⟨v, σ', H', J, rv, q⟩ := hs
  exact fin J rv q
 | next =>
  obtain ⟨σ', H', J, q⟩ := hs
  exact fin (v:=V.non) (u:=Value.none) J rfl q
 | brk =>
  obtain ⟨_, _, _, q⟩ := hs
  exact False.elim q
 | cont =>
  obtain ⟨_, _, _, q⟩ := hs
  exact False.elim q
theorem Fun.okH {P : Program} {w : World} {K : PySem.W.Frag} {mg : Str -> Option Value} {base : Heap} {x qual : Str} {st : Stmt} {f : Addr} {fd : FuncData} {N ps : List Str} {k : Nat} {sp : Sp} (F : Fun K x qual st f fd) (S : FnScope N ps (zac st)) (len : ∀ vs H Q E, sp vs H Q E -> vs.length = ps.length)
  (hbody : ∀ (cdv : Value) (A : Around) (outer : List Env) (s : Shared) (H : Hp) (vs : List V) (Q : VK) (E : XK), RoomH k (A.deeper (envOfC qual (zac st) s.heap.objs.size f cdv)) -> sp vs H Q E ->
   ∃ t, PSs (zlq CX0 P w K mg base N qual (zac st) f cdv A outer s H E).nox (zan st) t /\ t { nx := fun _ H' => Q .non H', rt := Q } (start N vs) H) : FnOkH P w K mg base CX0 (k + 1) f fd ps sp := by
 obtain ⟨oc, od, kV, doc, pm, an, cdv, ct, osl, rfl, lk, hcd⟩ := F.ex
 refine zsa lk hcd S len fun A outer s H vs Q E hr hsp => ?_
 obtain ⟨t, h, q⟩ := hbody cdv A outer s H vs Q E hr hsp
 exact ⟨t, h.nox, q⟩
end L2
namespace L2
open PySem PySem.W PySem.Spec PyProof.Rows
section
variable {prog : Program} {w : World} {A : Around} {E : Value -> Shared -> Prop} {env : Env} {s : Shared}
theorem zhu : entryFor table "proto.unchain" = some Builtin.«proto.unchain» := by kernel_rfl
theorem zid {e : Value} {h : Addr} {ox : Obj} {us : Array Value} {Q : Value -> Shared -> Prop} (hx : s.heap.get? h = some ox) (hd : ox.data = .fields us) (h2 : us[2]? = some .none) (q : Q .none s) :
  wpAny (model prog w) A (runValue (.builtin "proto.unchain" ⟨[e, .ref h, .ref h, .bool false], []⟩)) Q E s := by
 refine wpAny_runValue (codeAny_builtin zhu ?_)
 unfold Builtin.«proto.unchain»
 show wpAny _ _ (field (.ref h) 2 >>= _) _ _ _
 refine wpAny_bind (wpAny_field hx hd h2 ?_)
 rw [if_pos (by decide)]
 show wpAny _ _ (pure (Fin.done (Flow.ret Value.none))) _ _ _
 exact wpAny_pure q
theorem zhw {α : Type} {e h : Addr} {oe ox : Obj} {vs us : Array Value} {Q : α -> Shared -> Prop} (hh : A.handled = some (.ref h)) (hne : h ≠ e) (he : s.heap.get? e = some oe) (hd : oe.data = .fields vs) (hs : 2 < vs.size)
  (hx : s.heap.get? h = some ox) (hdx : ox.data = .fields us) (h2 : us[2]? = some .none) (q : E (.ref e) { s with heap := s.heap.update e (Obj.mapFields (·.setIfInBounds 2 (.ref h))) }) : wpAny (model prog w) A (raiseNew (.ref e) : Sem α) Q E s := by
 unfold raiseNew
 refine wpAny_bind (wpAny_handled ?_)
 rw [hh]
 show wpAny _ _ (if (Value.ref h != Value.ref e) = true then (holding [Value.ref e] (runValue (.builtin "proto.unchain" ⟨[.ref e, .ref h, .ref h, .bool false], []⟩)) >>= fun _ => setField (.ref e) 2 (.ref h) >>= fun _ => throw (Value.ref e)) else throw (Value.ref e)) _ _ _
 rw [if_pos (by simpa using hne)]
 exact wpAny_bind (wpAny_holding (zid hx hdx h2 (wpAny_bind (wpAny_setField he hd hs (wpAny_throw q)))))
theorem zlf {x c : Sem Value} {h : Addr} {Q : Flow -> Shared -> Prop} (hh : A.handled = some (.ref h)) (hc : ∀ (s' : Shared) (Q : Value -> Shared -> Prop), Q .none s' -> wpAny (model prog w) A c Q E s')
  (hx : wpAny (model prog w) A x (fun v s1 => ∃ e t de C bm ox us, v = .ref e /\ zk2 s1.heap C bm /\ bm.contains (.type "BaseException") = true /\
   s1.heap.get? e = some { cls := .ref C, dict := de, data := .fields #[t, .none, .none, .none, .bool false, .none] } /\ s1.heap.get? h = some ox /\ ox.data = .fields us /\ us[2]? = some .none /\ h ≠ e /\ C ≠ e /\
   ∀ h', h'.get? e = some { cls := .ref C, dict := de, data := .fields #[t, .none, .ref h, .none, .bool true, .none] } -> (∀ b o, b ≠ e -> s1.heap.get? b = some o -> h'.get? b = some o) -> E (.ref e) { s1 with heap := h' }) E s) :
  wpAny (model prog w) A (raiseStmt env (some x) (some c)) Q E s := by
 unfold raiseStmt
 refine wpAny_bind (wpAny_mono hx (fun v s1 h1 => ?_) fun _ _ x => x)
 obtain ⟨e, t, de, C, bm, ox, us, rfl, ⟨_, _, _, _, _, _, _, _, _, _, _, _, _, _, _, _, hC⟩, hb, he, hox, hdx, h2, hne, hCe, hE⟩ := h1
 have hB : (Value.ref C :: bm).contains (.type "BaseException") = true := by rw [List.contains_cons, hb, Bool.or_true]
 refine wpAny_bind (wpAny_holding (hc _ _ (wpAny_bind (wpAny_pure ?_))))
 obtain ⟨hp, g, d, tk, os⟩ := s1
 repeat (first | with_reducible refine wpAny_loadPart_at he ?_ | with_reducible refine wpAny_loadPart_at hC ?_ | (with_reducible refine wpAny_isSubtype_exc hC ?_; rw [hB]) | wp_step)
 have he : hp.get? e = some { cls := .ref C, dict := de, data := .fields #[t, .none, .none, .none, .bool false, .none] } := he
 have up : ∀ (h0 : Heap) (o : Obj) (vs : Array Value) (k : Nat) (v : Value), h0.get? e = some o -> o.data = .fields vs -> (h0.update e (Obj.mapFields fun x => x.setIfInBounds k v)).get? e = some (Obj.mapFields (fun x => x.setIfInBounds k v) o) := fun h0 o vs k v ho hd => Heap.get?_update_self _ ho (Obj.isFreed_of_fields (Obj.data_mapFields hd _))
 have e1 : (hp.update e (Obj.mapFields fun x => x.setIfInBounds 3 Value.none)).get? e = some { cls := .ref C, dict := de, data := .fields #[t, .none, .none, .none, .bool false, .none] } := up hp _ _ 3 .none he rfl
 have e2 : ((hp.update e (Obj.mapFields fun x => x.setIfInBounds 3 Value.none)).update e (Obj.mapFields fun x => x.setIfInBounds 4 (Value.bool true))).get? e = some { cls := .ref C, dict := de, data := .fields #[t, .none, .none, .none, .bool true, .none] } := up _ _ _ 4 (.bool true) e1 rfl
 have oth : ∀ b, b ≠ e -> ((hp.update e (Obj.mapFields fun x => x.setIfInBounds 3 Value.none)).update e (Obj.mapFields fun x => x.setIfInBounds 4 (Value.bool true))).get? b = hp.get? b := fun b hb => (Heap.get?_update_other _ _ (Ne.symm hb)).trans (Heap.get?_update_other _ _ (Ne.symm hb))
 generalize (hp.update e (Obj.mapFields fun x => x.setIfInBounds 3 Value.none)).update e (Obj.mapFields fun x => x.setIfInBounds 4 (Value.bool true)) = h3 at e2 oth ⊢
 refine zhw (s:=⟨h3, g, d, tk, os⟩) hh hne e2 rfl (by show 2 < 6; decide) ((oth h hne).trans hox) hdx h2 (hE _ (up h3 _ _ 2 (.ref h) e2 rfl) fun b o hb z => ?_)
 exact (Heap.get?_update_other _ _ (Ne.symm hb)).trans ((oth b hb).trans z)
end
noncomputable def zfy (K : PySem.W.Frag) (H₀ : Hp) (E : XK) (sp : Sp) (ta : TA) (CF : Addr) (te : TE) : TS := fun D σ H => ta σ H fun vs H1 => sp vs H1 D.rt (fun cls _ H2 => ∃ C, cls = .ref C /\ exmOne K (.ref C) (.ref CF) = some true /\
 te σ H2 fun v H3 => ∃ e C dd, v = .ref e /\ H3 e = some (ErrO e C dd) /\ H₀ e = none /\ (∃ fI, zht K C fI) /\ E (.ref C) dd (del H3 e))
section
variable {X : Cx} {CX : CXT} {k : Nat} {f C : Addr} {fd : FuncData} {ps : List Str} {sp : Sp} {E : XK} {x : Str} {p pos : Pos} {e : Expr} {es : List Expr} {t : TA}
theorem zlv (M : XMk X.K C f) (F : FnOkH X.prog X.w X.K X.mg X.base CX k f fd ps sp) (hr : RoomH (k + 1) X.A) (hg : Gl X x) (hm : X.mg x = some (.ref C)) (hb : zbw X.K fd ps []) (hx : zc5 CX X E)
  (ha : PA X (e :: es) t) (hsz : ps.length <= 100) (hdb : (x == ("__debug__" : Str)) = false := by decide) (he : starEach (e :: es) X.env = (false, eval e X.env) :: starEach es X.env := by rfl) (hpl : (backTo pos (starEach es X.env)).any (·.1) = false := by rfl) :
  PE X (.Call (.Name x p) (e :: es) [] pos) (zh0 C sp E t) := by
 intro pins s σ H Q I h
 refine wpAny_Call_Name_kw (zc2 I hg hm ?_ hdb)
 refine PySem.W.callWith_K (h₀:=X.base) I.ok.mod.kin M.kp (thn (ha pos pins s σ H _ I h) fun us s1 ⟨vs, H1, I1, r, q⟩ => ⟨I1.kIn, ?_⟩) he hpl
 obtain ⟨tl, Na, nm, q', bs, hdct, sn, sub, ab, col, dc, k0, k1, k2, k3, k5, mN, hC, hN, hni, T⟩ := zd4 I1.kIn M.cls
 obtain ⟨oI, hoI, hcI⟩ := Option.map_eq_some_iff.mp (beq_iff_eq.mp M.fn)
 obtain ⟨hh, g, d, tk, os⟩ := s1
 refine zgq PySem.F.excBase_ValueError (by decide) PySem.F.excBase_ValueError T hC hN hni (I1.kIn f oI hoI) hcI (fun h' e' hs hmd => ?_) ?_
 ·have I2 := Inv.errMade (s:=⟨hh, g, d, tk, os⟩) (C:=C) I1 hs hmd
  have hq := q e' (I1.hok.fresh hs)
  have r2 : Vals (V.ref e' :: vs) (Value.ref e' :: us) := .cons rfl r
  have hl : (Value.ref e' :: us ++ []).length = ps.length := by
   have z := r2.length
   rw [F.len _ _ _ _ hq] at z
   rw [List.append_nil]; exact z.symm
  have hb' := hb ⟨h', g, d, tk, os⟩ (Value.ref e' :: us) I2.kIn hl
  rw [List.append_nil] at hb'
  refine wpAny_call (codeAny_mono (F.run _ X.stack _ _ ⟨Value.ref e' :: us, []⟩ (Value.ref e' :: us) _ _ E (hr.make C us []) (I2.env0.make C us []) hb' r2 hq) fun r s' hq' => ?_)
  cases r with
  | error e => exact hx pins σ _ _ e s' I2 hq'
  | ok fl =>
   cases fl with
   | ret u =>
    obtain ⟨v, H', I3, rv, ev, q3⟩ := I2.after hq'
    subst ev
    exact ⟨rv, ⟨V.ref e', H', I3, rfl, q3⟩⟩
   | next => exact False.elim hq'
   | brk => exact False.elim hq'
   | cont => exact False.elim hq'
 ·have z := q hh.objs.size (I1.hok.fresh (Nat.le_refl _))
  have z2 := F.len _ _ _ _ z
  have z3 : vs.length + 1 = ps.length := z2
  have z4 := r.length
  rw [sizeLine_eq, List.nil_append]; lia
end
section
theorem zhd {X : Cx} {H₀ : Hp} {E : XK} {k j : Nat} {f' CF : Addr} {fd : FuncData} {ps : List Str} {sp : Sp} {fn cn : Str} {p pos rpos np hp tp kp rp : Pos} {e xe : Expr} {es : List Expr} {ta : TA} {te : TE}
  (F : FnOk X.prog X.w X.K X.mg X.base (CXB true X.prog X.w) k f' fd ps sp) (hr : Room k X.A) (hg : Gl X fn) (hm : X.mg fn = some (.ref f')) (hk : PySem.W.keepIn X.K (.ref f') = true) (hb : zbw X.K fd ps []) (ha : PA X.nox (e :: es) ta)
  (hgc : Gl X cn) (hmc : X.mg cn = some (.ref CF)) (hx : ∀ x, PE (X.inSuite x) xe te)
  (eF : X.env.frame = some X.env.locals) (eS : X.stack = X.env :: X.outer) (eX : X.ex = []) (hXe : ∀ x, PassesOwnAt (model X.prog X.w) (X.A.mark (some (.ref x))) X.A X.env X.xe)
  (fly : ∀ (pins : List (Addr × Obj)) (σ : St) (H2 : Hp) (s2 : Shared) (e C : Addr) (dd : Option Addr) (oe : Obj) (vs : Array Value) (φ : Heap -> Prop) (a0 : Value), Inv X pins σ H2 s2 -> H2 e = some (.ext φ) -> H₀ e = none -> s2.heap.get? e = some oe -> oe.cls = .ref C -> oe.dict = dd -> oe.data = .fields vs -> vs[1]? = some .none -> vs[0]? = some a0 -> E (.ref C) dd (del H2 e) -> X.xe (.ref e) s2)
  (hdb : (fn == ("__debug__" : Str)) = false) (hdc : (cn == ("__debug__" : Str)) = false) (he : starEach (e :: es) X.env = (false, eval e X.env) :: starEach es X.env) (hpl : (backTo pos (starEach es X.env)).any (·.1) = false) :
  PS X (.Try [.Return (some (.Call (.Name fn p) (e :: es) [] pos)) rpos] [.ExceptHandler (some (.Name cn np)) none [.Raise (some xe) (some (.Constant .none j kp)) rp] hp] [] [] tp) (zfy X.K H₀ E sp ta CF te) := by
 intro pins s1 σ H1 D I h
 refine wpAny_Try_except (wpAny_execs_cons (wpAny_Return_some (wpAny_Call_Name_kw (zc2 I hg hm ?_ hdb))))
 refine PySem.W.callWith_K (h₀:=X.base) I.ok.mod.kin hk (wpAny_mono (ha pos pins s1 σ H1 _ (I.wish _) h) (fun us s1 ⟨vs, H1, I1, r, q⟩ => ⟨I1.unwish.kIn, ?_⟩) fun _ _ z => z.elim) he hpl
 have I1 := I1.unwish
 have hl : (us ++ []).length = ps.length := by rw [List.append_nil, <- r.length]; exact F.len _ _ _ _ q
 have hb' := hb s1 us I1.kIn hl
 rw [List.append_nil] at hb'
 refine wpAny_call (codeAny_mono (F.run X.A X.stack s1 H1 ⟨us, []⟩ us vs _ _ hr I1.env0 hb' r q) fun r s2 hq => ?_)
 cases r with
 | ok fl =>
  cases fl with
  | ret u =>
   obtain ⟨v, H2, I2, rv, q2⟩ := I1.after hq
   exact ⟨v, σ, H2, I2, rv, q2⟩
  | next => exact False.elim hq
  | brk => exact False.elim hq
  | cont => exact False.elim hq
 | error ev =>
  obtain ⟨x, C, a0, B, H2, dd, rfl, os, bare, U, hok, fl, c1, c2, nx, hxn, di, C', eC, hex, q2⟩ := hq
  cases eC
  have fl0 : Heap.FlyingW B (X.env :: X.outer) x (.ref C) a0 s2.heap := by rw [<- eS]; exact fl
  have hfr : X.A.frames = some (X.env :: X.outer) := by rw [<- eS]; exact I1.ok.frames
  have ff : ∀ b ∈ frs X.stack, ∃ o, s2.heap.get? b = some o /\ ∀ vs, o.data ≠ .fields vs := fun b hb => (fl.2.2.1.mem (b:=b) hb).2
  show wpAny _ _ (noteFrame (.ref x) X.env) _ _ s2
  refine zfq hfr eF fl0 fun h3 held up3 dk3 => ?_
  refine zks (s:={ s2 with heap := h3 }) held fun h4 fl4 up4 dk4 => ?_
  have inv : ∀ {h' : Heap}, B.StaysIn h' -> s2.heap.UpToSlots h' -> Inv X pins σ H2 { s2 with heap := h' } := fun {h'} st up =>
   I1.call' (s':={ s2 with heap := h' }) (ch:=[]) os (U.fly fl.1 st c1 up ff) (hok.fly c2 fl.1 st) bare (fun b z => nomatch z)
  have I4 := inv fl4.1 (up3.trans up4)
  obtain ⟨ob4, hob4, hcl4⟩ := fl4.there
  refine wpAny_handleBy_cons (codeAny_handlers_test (zc2 (X:=X.inSuite x) (I4.inSuite x) hgc hmc ?_ hdc)) (by intro q; cases q)
  have LT : Looks (model X.prog X.w) h4 (typeOf (.ref x)) (.ref C) := by rw [<- hcl4]; exact (Looks.ld hob4).andThen .now
  refine Looks.here (s:={ s2 with heap := h4 }) (exm_one (M:=model X.prog X.w) I4.kIn LT hex) ?_
  refine codeAny_handlers_suite ?_
  refine zef (s:={ s2 with heap := h4 }) fl4 fun h5 fl5 up5 dk5 => ?_
  have I5 := inv fl5.1 ((up3.trans up4).trans up5)
  obtain ⟨_, _, _, o5, vs5, _, _, _, ho5, ⟨hc5, _⟩, hd5, _⟩ := fl5
  obtain ⟨o', ho', _, hf2⟩ := ((dk3.trans dk4).trans dk5).is di
  have ho5 : h5.get? x = some o5 := ho5
  rw [ho5] at ho'; cases ho'
  have h22 : vs5[2]? = some .none := by
   have := hf2 rfl
   unfold fld2 at this
   rw [hd5] at this; exact this
  have I6 : Inv X (pins ++ [(x, o5)]) σ H2 { s2 with heap := h5 } := I5.pins_of fun p hp => by
   rcases List.mem_append.mp hp with hp | hp
   ·exact I5.pin p (List.mem_append_right _ hp)
   ·rw [List.mem_singleton.mp hp]
    refine ⟨ho5, hxn, ?_, ?_, ?_⟩
    ·obtain ⟨m, ⟨o, _, _, ho, _⟩, _⟩ := I1.loc
     exact fun z => by
      have z : x = X.env.locals := z
      rw [z, ho] at nx; cases nx
    ·intro z
     obtain ⟨o, ho, _⟩ := (I1.funs.mem z).2
     have ho : s1.heap.get? x = some o := ho
     rw [nx] at ho; cases ho
    ·intro v z
     have z : o5.data = .cell v := z
     rw [hd5] at z; cases z
  refine wpAny_mono ?_ (fun _ _ z => z) fun ev sv hev => hXe x ev sv hev
  refine wpAny_execs_cons ?_
  rw [arm_exec_Raise]
  show wpAny _ _ (do standAt rp; raiseStmt X.env (some (do let v <- eval xe X.env; standAt rp; pure v)) (some (do let v <- eval (.Constant .none j kp) X.env; standAt rp; pure v))) _ _ _
  refine wpAny_bind (wpAny_standAt (zlf (h:=x) rfl (fun s' Q q => ?_) ?_))
  ·refine wpAny_bind ?_
   show wpAny _ _ (pure Value.none) _ _ _
   exact wpAny_pure (wpAny_bind (wpAny_standAt (wpAny_pure q)))
  ·refine wpAny_bind (wpAny_mono (hx x _ { s2 with heap := h5 } σ H2 _ (I6.inSuite x) q2) (fun v s7 hz => wpAny_bind (wpAny_standAt (wpAny_pure ?_))) fun _ _ z => z.elim)
   obtain ⟨u, H7, I7, ru, e7, C7, dd7, eu, he7, hn7, ⟨fI, hx7⟩, q7⟩ := hz
   have I7 := I7.outSuite I1.ok
   subst eu
   obtain rfl : v = Value.ref e7 := ru
   obtain ⟨tl, Na, nm, q', bs, hdct, sn, sub, ab, col, dc, k0, k1, k2, k3, k5, mN, hC, hN, hni, T⟩ := zd4 I7.kIn hx7
   obtain ⟨t0, ho⟩ : zlc e7 C7 dd7 s7.heap := (I7.hok e7 _ he7).1
   have hpin := I7.pin (x, o5) (List.mem_append_right _ (List.mem_append_right _ (List.mem_singleton.mpr rfl)))
   have hxe : x ≠ e7 := fun z => by
    have := hpin.2.1
    rw [show ((x, o5) : Addr × Obj).1 = e7 from z, he7] at this; cases this
   have hCe : C7 ≠ e7 := fun z => by rw [z, ho] at hC; cases hC
   refine ⟨e7, t0, dd7, C7, tl, o5, vs5, rfl, ⟨_, _, _, _, _, _, _, _, _, _, _, _, _, _, _, _, hC⟩, T.hasType PySem.F.excBase_ValueError.hasBase, ho, hpin.1, hd5, h22, hxe, hCe, fun h8 g8 k8 => ?_⟩
   have I8 := Inv.write (o:=.ext fun h => h.get? e7 = some { cls := .ref C7, dict := dd7, data := .fields #[t0, .none, .ref x, .none, .bool true, .none] }) (t':=s7.toks) I7 (by rw [he7]; trivial) (.inl rfl) k8 ⟨_, g8⟩ ⟨g8, ⟨_, g8⟩, fun h1 h2 z kk => kk _ z⟩
   have q8 : E (.ref C7) dd7 (del (upd H7 e7 (.ext fun h => h.get? e7 = some { cls := .ref C7, dict := dd7, data := .fields #[t0, .none, .ref x, .none, .bool true, .none] })) e7) := by
    have : del (upd H7 e7 (.ext fun h => h.get? e7 = some { cls := .ref C7, dict := dd7, data := .fields #[t0, .none, .ref x, .none, .bool true, .none] })) e7 = del H7 e7 := by
     funext b
     by_cases hb : b = e7
     ·subst hb; rw [zdn, zdn]
     ·rw [zdw hb, zdw hb, zaj hb]
    rw [this]; exact q7
   exact fly _ _ _ _ _ _ _ _ _ _ _ I8 zah hn7 g8 rfl rfl rfl rfl rfl q8
end
section
variable {P : Program} {w : World} {K : PySem.W.Frag} {mg : Str -> Option Value} {base : Heap} {N : List Str} {qual : Str} {scope : Scope} {f : Addr} {cd : Value} {A : Around} {outer : List Env} {s : Shared} {H : Hp} {E : XK}
theorem zj5 {k j : Nat} {f' CF : Addr} {fd : FuncData} {ps : List Str} {sp : Sp} {fn cn : Str} {p pos rpos np hp tp kp rp : Pos} {e xe : Expr} {es : List Expr} {ta : TA} {te : TE}
  (F : FnOk P w K mg base (CXB true P w) k f' fd ps sp) (hr : Room k (cxOf (CXB false P w) P w K mg base N qual scope f cd A outer s H E).A) (hg : Gl (cxOf (CXB false P w) P w K mg base N qual scope f cd A outer s H E) fn) (hm : mg fn = some (.ref f')) (hk : PySem.W.keepIn K (.ref f') = true) (hb : zbw K fd ps []) (ha : PA (cxOf (CXB false P w) P w K mg base N qual scope f cd A outer s H E).nox (e :: es) ta)
  (hgc : Gl (cxOf (CXB false P w) P w K mg base N qual scope f cd A outer s H E) cn) (hmc : mg cn = some (.ref CF)) (hx : ∀ x, PE ((cxOf (CXB false P w) P w K mg base N qual scope f cd A outer s H E).inSuite x) xe te)
  (hdb : (fn == ("__debug__" : Str)) = false := by decide) (hdc : (cn == ("__debug__" : Str)) = false := by decide) (he : starEach (e :: es) (cxOf (CXB false P w) P w K mg base N qual scope f cd A outer s H E).env = (false, eval e (cxOf (CXB false P w) P w K mg base N qual scope f cd A outer s H E).env) :: starEach es (cxOf (CXB false P w) P w K mg base N qual scope f cd A outer s H E).env := by rfl) (hpl : (backTo pos (starEach es (cxOf (CXB false P w) P w K mg base N qual scope f cd A outer s H E).env)).any (·.1) = false := by rfl) :
  PS (cxOf (CXB false P w) P w K mg base N qual scope f cd A outer s H E) (.Try [.Return (some (.Call (.Name fn p) (e :: es) [] pos)) rpos] [.ExceptHandler (some (.Name cn np)) none [.Raise (some xe) (some (.Constant .none j kp)) rp] hp] [] [] tp) (zfy K H E sp ta CF te) := by
 exact zhd F hr hg hm hk hb ha hgc hmc hx rfl rfl rfl (fun _ => PassesOwnAt.leaving) (fun _ _ _ _ _ _ _ _ _ _ _ I8 h1 h2 h3 h4 h5 h6 h7 h8 q => zmy I8 h1 h2 h3 h4 h5 h6 h7 h8 (fun z => by cases z) q) hdb hdc he hpl
end
end L2
namespace L2
open PySem PySem.W PySem.Spec PyProof.Rows
section
variable {P : Program} {w : World} {fs : List Addr} {H H' : Hp} {h h2 h3 B : Heap}
theorem Un.flyB (U : Un fs [] H H' h h2) (st2 : B.StaysIn h2) (st3 : B.StaysIn h3) (c1 : ∀ b o, h.get? b = some o -> b ∉ fs -> ∃ o', B.get? b = some o') (up : ∀ b ∈ fs, ∀ o, h2.get? b = some o -> (∀ vs, o.data ≠ .fields vs) -> ∃ sl, h3.get? b = some { o with slots := sl })
  (ff : ∀ b ∈ fs, ∃ o, h2.get? b = some o /\ ∀ vs, o.data ≠ .fields vs) : Un fs [] H H' h h3 where
 keep := fun b o e n hb hx => by
  obtain ⟨o', q⟩ := c1 b o e hb
  have q1 := U.keep b o e n hb hx
  have q2 := st2 b o' q
  rw [q1] at q2; cases q2
  exact st3 b _ q
 slot := fun b o e n hb hx => by
  obtain ⟨sl, q⟩ := U.slot b o e n hb hx
  obtain ⟨o2, q2, nf⟩ := ff b hb
  rw [q] at q2; cases q2
  obtain ⟨sl', q3⟩ := up b hb _ q nf
  exact ⟨sl', q3⟩
 free := U.free
 there := fun b o e hx => by
  by_cases hb : b ∈ fs
  ·obtain ⟨o2, q2, nf⟩ := ff b hb
   obtain ⟨sl, q3⟩ := up b hb _ q2 nf
   exact ⟨_, q3⟩
  ·obtain ⟨o', q⟩ := c1 b o e hb
   exact ⟨o', st3 b _ q⟩
 tups := U.tups
 frzs := U.frzs
 tbls := U.tbls
end
theorem zeg {h h' base : Heap} {C : Addr} (k : ∀ b, b ≠ C -> h'.get? b = h.get? b) : ∀ {l : List Env}, h.FunFrames base l -> C ∉ frs l -> h'.FunFrames base l
 | [], hl, _ => hl
 | env :: rest, ⟨a, ⟨L, o, hf, hb, ho, hd⟩, hr⟩, hn => by
  have e : frs (env :: rest) = L :: frs rest := by unfold frs; rw [List.filterMap_cons, hf]
  rw [e] at hn
  refine ⟨a, ⟨L, o, hf, hb, ?_, hd⟩, zeg k hr fun z => hn (List.mem_cons_of_mem _ z)⟩
  rw [k L fun z => hn (by rw [z]; exact List.mem_cons_self ..)]; exact ho
section
variable {M : Model} {A : Around} {E : Value -> Shared -> Prop} {s : Shared} {B : Heap} {env : Env} {outer : List Env} {L e : Addr} {C a0 fl : Value} {Q : Unit -> Shared -> Prop}
theorem zli (q1 : A.frames = some (env :: outer)) (q3 : env.frame = some L) (st : B.StaysIn s.heap) (be : B.get? e = none) (ff : s.heap.FunFrames B (env :: outer)) (tr : s.heap.TracedAtW B e C a0 fl)
  (h : ∀ h', Heap.FlyingW B outer e C a0 h' -> s.heap.UpToSlots h' -> DK s.heap h' -> Q () { s with heap := h' }) : wpAny M A (leaving env (.ref e)) Q E s := by
 obtain ⟨oe, vs, T, oT, ts, he, ⟨hc, h0⟩, hd, h1, hnT, hTe, hT, hdT, h3⟩ := id tr
 show wpAny _ _ (noteFrame (.ref e) env >>= fun _ => setFlight (.ref e) none) _ _ _
 refine wpAny_bind ?_
 unfold noteFrame
 simp only [q3]
 refine wpAny_bind (wpAny_field he hd h1 ?_)
 rw [if_pos (by simp)]
 refine wpAny_bind (wpAny_field hT hdT h3 ?_)
 by_cases hf : fl = rawInt L
 ·subst hf
  rw [if_pos (by simp)]
  refine wpAny_pure ?_
  exact zks (l:=env :: outer) ⟨st, be, ff, tr⟩ fun h' f u k => h h' ⟨f.1, f.2.1, f.2.2.1.2.2, f.2.2.2⟩ u k
 ·rw [if_neg (by simpa using hf)]
  have k1 := zdj 3 Value.none hT hdT (by decide)
  refine wpAny_bind (wpAny_setField hT hdT (Array.getElem?_eq_some_iff.mp h3).1 ?_)
  have oth : ∀ b, b ≠ T -> (s.heap.update T (Obj.mapFields (·.setIfInBounds 3 Value.none))).get? b = s.heap.get? b := fun b hb => Heap.get?_update_other _ _ (Ne.symm hb)
  have nr : ∀ b o, s.heap.get? b = some o -> (∀ vs, o.data ≠ .fields vs) -> b ≠ T := fun b o hb nf q => by rw [q, hT] at hb; cases hb; exact nf ts hdT
  have ff' := ff.of_keeps (h':=s.heap.update T (Obj.mapFields (·.setIfInBounds 3 Value.none))) fun b o hb nf => ⟨o, (oth b (nr b o hb nf)).trans hb, rfl⟩
  have st' : B.StaysIn (s.heap.update T (Obj.mapFields (·.setIfInBounds 3 Value.none))) := fun b o hb => by
   rw [oth b fun z => by rw [z, hnT] at hb; cases hb]; exact st b o hb
  have he' := (oth e (Ne.symm hTe)).trans he
  have W := zb0 (wpAny_entryW (M:=M) (A:=A) (E:=E) (s:={ s with heap := s.heap.update T (Obj.mapFields (·.setIfInBounds 3 Value.none)) }) (head:=.ref T) (hadNext:=Value.ref T != Value.none) (Q:=fun _ s' => ∃ h', s' = { s with heap := h' } /\ Heap.NotedW B (env :: outer) e oe.cls a0 (rawInt L) (s.heap.update T (Obj.mapFields (·.setIfInBounds 3 Value.none))) h') q1 ff' q3 he' st' be hd (Array.getElem?_eq_some_iff.mp h1).1 h0 fun h' n => ⟨h', rfl, n⟩)
   (zhh (M:=M) (A:=A) (E:=E) (s:={ s with heap := s.heap.update T (Obj.mapFields (·.setIfInBounds 3 Value.none)) }) (head:=.ref T) (hn:=Value.ref T != Value.none) q1 ff' q3 he' hd (Array.getElem?_eq_some_iff.mp h1).1)
  refine wpAny_mono W (fun _ s' z => ?_) fun _ _ z => z.1
  obtain ⟨⟨h', rfl, n1, n2, n3, n4⟩, k⟩ := z
  rw [hc] at n3
  refine zks (l:=env :: outer) (s:={ s with heap := h' }) ⟨n1, be, n2, n3⟩ fun h'' f u k2 => h h'' ⟨f.1, f.2.1, f.2.2.1.2.2, f.2.2.2⟩ (fun b o hb nf => ?_) ((k1.trans k).trans k2)
  obtain ⟨sl, z1⟩ := n4 b o ((oth b (nr b o hb nf)).trans hb) nf
  obtain ⟨sl2, z2⟩ := u b _ z1 nf
  exact ⟨sl2, z2⟩
end
noncomputable def OutC (cb : Bool) (X : Cx) (E : XK) : Prop := ∀ (pins : List (Addr × Obj)) (σ : St) (H : Hp) (s : Shared) (e : Value) (s' : Shared) (C : Addr) (m : Str -> Option Value), Inv X pins σ H s -> s.heap.Ns C m -> H C = none -> X.s₀.heap.objs.size <= C -> C ≠ X.env.locals -> C ∉ X.fs ->
 CXB cb X.prog X.w X.stack H s E e s' -> notedBy (model X.prog X.w) X.A X.env (fun x s'' => ∃ m, s''.heap.Ns C m /\ ∀ h', Heap.SameBut C s''.heap h' -> ∀ cenv : Env, cenv.locals = C -> wpAny (model X.prog X.w) X.A (PySem.passOn "comprehension.variables-let-go" x cenv : Sem Value) (fun _ _ => False) X.xe { s'' with heap := h' }) e s'
noncomputable def xeLC (cb : Bool) (X : Cx) (N' : List Str) (scope : Scope) (s : Shared) (H : Hp) (C : Addr) (fp : List Addr) (E : XK) : Value -> Shared -> Prop := fun e s' => ∃ pins2 σ2 H1 s1, Inv (lcCx X N' scope s H C fp) pins2 σ2 H1 s1 /\ CXB cb X.prog X.w X.stack H1 s1 E e s'
noncomputable abbrev lcE (cb : Bool) (X : Cx) (N' : List Str) (scope : Scope) (s : Shared) (H : Hp) (C : Addr) (fp : List Addr) (E : XK) : Cx := (lcCx X N' scope s H C fp).wish (xeLC cb X N' scope s H C fp E)
theorem zsi {cb : Bool} {X : Cx} {N' : List Str} {scope : Scope} {s : Shared} {H : Hp} {C : Addr} {fp : List Addr} {E : XK} : zc5 (CXB cb X.prog X.w) (lcE cb X N' scope s H C fp E) E := fun pins σ H s e s' I h => ⟨pins, σ, H, s, I.unwish, h⟩
section
variable {cb : Bool} {P : Program} {w : World} {K : PySem.W.Frag} {mg : Str -> Option Value} {base : Heap} {N : List Str} {qual : Str} {scope : Scope} {f : Addr} {cd : Value} {A : Around} {outer : List Env} {s : Shared} {H : Hp} {E : XK}
theorem outC : OutC cb (cxOf (CXB cb P w) P w K mg base N qual scope f cd A outer s H E) E := by
 intro pins σ H1 s1 e s2 C m I hm hCn hCs hCl hCf h
 obtain ⟨x, Cc, a0, B, H2, dd, rfl, os, bare, U, hok, fl, c1, c2, nx, hx, di, q⟩ := h
 have fl : Heap.FlyingW B (envOfC qual scope s.heap.objs.size f cd :: outer) x (.ref Cc) a0 s2.heap := fl
 have J := I.call' (ch:=[]) os U hok bare (fun b z => nomatch z)
 have thr : ∀ b o, s.heap.get? b = some o -> ∃ o1, s1.heap.get? b = some o1 := fun b o e => I.base.there b o e (fun z => nomatch z)
 have hCl : C ≠ s.heap.objs.size := hCl
 have hCf : C ∉ frs outer := hCf
 have hCs : s.heap.objs.size <= C := hCs
 have hCst : C ∉ frs (envOfC qual scope s.heap.objs.size f cd :: outer) := fun z => by
  have z : C ∈ s.heap.objs.size :: frs outer := z
  rcases List.mem_cons.mp z with z | z
  ·exact hCl z
  ·exact hCf z
 obtain ⟨oC, esC, epC, hoC, hrC⟩ := hm
 have hC0 : s.heap.get? C = none := by
  cases z : s.heap.get? C with
  | none => rfl
  | some o => exact absurd (Heap.lt_size z) (Nat.not_lt.mpr hCs)
 have hC2 : s2.heap.get? C = some oC := U.keep C oC hoC hCn hCst (fun z => nomatch z)
 obtain ⟨o', hB⟩ := c1 C oC hoC hCst
 have ho' := fl.1 C o' hB
 rw [hC2] at ho'; cases ho'
 have hxC : x ≠ C := fun z => by rw [z, hoC] at nx; cases nx
 show wpAny _ _ (noteFrame (.ref x) (envOfC qual scope s.heap.objs.size f cd)) _ _ s2
 refine zfq I.ok.frames rfl fl fun h3 held up3 dk3 => ?_
 refine ⟨m, ⟨oC, esC, epC, held.1 C _ hB, hrC⟩, fun h4 sb cenv hcl => ?_⟩
 -- the base without the block's names
 have bget : ∀ b o, B.get? b = some o -> b ≠ C -> (hideAll B [C]).get? b = some o := fun b o e hb => hideAll_get _ e (by simpa using hb)
 have bof : ∀ b o, (hideAll B [C]).get? b = some o -> B.get? b = some o /\ b ≠ C := fun b o e => ⟨of_hideAll _ e, fun z => by rw [z, hideAll_none _ (List.mem_singleton.mpr rfl)] at e; cases e⟩
 have bnone : ∀ b, B.get? b = none -> (hideAll B [C]).get? b = none := fun b e => by
  cases z : (hideAll B [C]).get? b with
  | none => rfl
  | some o => rw [(bof b o z).1] at e; cases e
 generalize hideAll B [C] = B' at bget bof bnone
 have st4 : B'.StaysIn h4 := fun b o e => by
  obtain ⟨e1, hb⟩ := bof b o e
  rw [sb.2 b hb]; exact held.1 b o e1
 have ff3 : h3.FunFrames B' (envOfC qual scope s.heap.objs.size f cd :: outer) := funFrames_base (fun b o e => (bof b o e).1) held.2.2.1
 have ff4 : h4.FunFrames B' (envOfC qual scope s.heap.objs.size f cd :: outer) := zeg sb.2 ff3 hCst
 obtain ⟨oe, vs, T, oT, ts, he, hc, hd, h1, hnT, hTe, hT, hdT, ht3⟩ := held.2.2.2
 have hTC : T ≠ C := fun z => by rw [z, hB] at hnT; cases hnT
 have he4 : h4.get? x = some oe := (sb.2 x hxC).trans he
 have hT4 : h4.get? T = some oT := (sb.2 T hTC).trans hT
 unfold PySem.passOn
 refine wpAny_bind (wpAny_field (s:={ s2 with heap := h4 }) he4 hd h1 ?_)
 rw [if_neg (by simp)]
 unfold setFlight
 refine wpAny_bind (wpAny_bind (wpAny_field (s:={ s2 with heap := h4 }) he4 hd h1 ?_))
 rw [if_pos (by simp)]
 generalize hv : (cenv.frame.elim Value.none fun f => rawInt f) = v
 refine wpAny_setField (s:={ s2 with heap := h4 }) hT4 hdT (Array.getElem?_eq_some_iff.mp ht3).1 (wpAny_throw ?_)
 have oth : ∀ b, b ≠ T -> (h4.update T (Obj.mapFields (·.setIfInBounds 3 v))).get? b = h4.get? b := fun b hb => Heap.get?_update_other _ _ (Ne.symm hb)
 have nr : ∀ b o, h4.get? b = some o -> (∀ vs, o.data ≠ .fields vs) -> b ≠ T := fun b o hb nf q => by rw [q, hT4] at hb; cases hb; exact nf ts hdT
 have dk5 : DK h4 (h4.update T (Obj.mapFields (·.setIfInBounds 3 v))) := zdj 3 v hT4 hdT (by decide)
 have st5 : B'.StaysIn (h4.update T (Obj.mapFields (·.setIfInBounds 3 v))) := fun b o hb => by
  rw [oth b fun z => by rw [z, bnone T hnT] at hb; cases hb]; exact st4 b o hb
 have ff5 := ff4.of_keeps (h':=h4.update T (Obj.mapFields (·.setIfInBounds 3 v))) fun b o hb nf => ⟨o, (oth b (nr b o hb nf)).trans hb, rfl⟩
 have hT5 := Heap.get?_update_self (Obj.mapFields (·.setIfInBounds 3 v)) hT4 (Obj.isFreed_of_fields (Obj.data_mapFields hdT (·.setIfInBounds 3 v)))
 have tr5 : (h4.update T (Obj.mapFields (·.setIfInBounds 3 v))).TracedAtW B' x (.ref Cc) a0 v := ⟨oe, vs, T, _, _, (oth x (Ne.symm hTe)).trans he4, hc, hd, h1, bnone T hnT, hTe, hT5, Obj.data_mapFields hdT (·.setIfInBounds 3 v), by simp [Array.getElem?_setIfInBounds, (Array.getElem?_eq_some_iff.mp ht3).1]⟩
 have c3 : ∀ b o, s.heap.get? b = some o -> b ∉ frs outer -> ∃ o', B'.get? b = some o' := fun b o z hb => by
  obtain ⟨o1, e1⟩ := thr b o z
  have nf : b ∉ frs (envOfC qual scope s.heap.objs.size f cd :: outer) := fun k => by
   have k : b ∈ s.heap.objs.size :: frs outer := k
   rcases List.mem_cons.mp k with k | k
   ·exact absurd (Heap.lt_size z) (by rw [k]; exact Nat.lt_irrefl _)
   ·exact hb k
  obtain ⟨o2, e2⟩ := c1 b o1 e1 nf
  exact ⟨o2, bget b o2 e2 fun k => by rw [k, hC0] at z; cases z⟩
 have hH2C : H2 C = none := U.free C oC hoC hCn (fun z => nomatch z)
 have c4 : ∀ b u, H2 b = some u -> ∃ o', B'.get? b = some o' := fun b u z => by
  obtain ⟨o2, e2⟩ := c2 b u z
  exact ⟨o2, bget b o2 e2 fun k => by rw [k, hH2C] at z; cases z⟩
 have st2 : B'.StaysIn s2.heap := fun b o e => fl.1 b o (bof b o e).1
 refine zli (s:={ s2 with heap := h4.update T (Obj.mapFields (·.setIfInBounds 3 v)) }) I.ok.frames rfl st5 (bnone x held.2.1) ff5 tr5 fun h6 fl6 up6 dk6 => ?_
 refine ⟨x, Cc, a0, B', H2, dd, rfl, os.trans I.os, bare, ?_, hok.fly c4 st2 fl6.1, fl6, c3, c4, ?_, hx, ?_, q⟩
 ·refine Un.flyB (B:=B') J.base st2 fl6.1 c3 (fun b hb o ho nf => ?_) fun b hb => (fl.2.2.1.mem (b:=b) (List.mem_cons_of_mem _ hb)).2
  obtain ⟨sl, e3⟩ := up3 b o ho nf
  have hbC : b ≠ C := fun z => hCf (z ▸ hb)
  have e4 : h4.get? b = some { o with slots := sl } := (sb.2 b hbC).trans e3
  obtain ⟨sl6, e6⟩ := up6 b _ ((oth b (nr b _ e4 nf)).trans e4) nf
  exact ⟨sl6, e6⟩
 ·cases z : s.heap.get? x with
  | none => rfl
  | some o =>
   obtain ⟨o1, e1⟩ := thr x o z
   have e1 : s1.heap.get? x = some o1 := e1
   rw [nx] at e1; cases e1
 ·obtain ⟨o3, e3, d3, r3⟩ := dk3.is di
  exact (dk5.trans dk6).is ⟨o3, (sb.2 x hxC).trans e3, d3, r3⟩
end
theorem zov {prog : Program} {w : World} {A : Around} {R : Result -> Shared -> Prop} {s : Shared} {elt target iter : Expr} {ifs : List Expr} {scope : Scope} {pos : Pos} {it acc : Value} {env : Env} (I : Nat -> Shared -> Prop)
  (turn : ∀ n s, I n s -> wpAny (model prog w) A (pyNext it) (fun r s₁ => match r with
   | none => R (.ok .next) s₁
   | some v => wpAny (model prog w) A (letOwnedTupleGo target it v) (fun _ s₁' => wpAny (model prog w) A (assign target env v) (fun _ s₂ =>
     wpAny (model prog w) A (forIn ifs true fun c r => if r = true then do let ok <- isTrue c env (eval c env); pure (ForInStep.yield ok) else pure (ForInStep.yield r)) (fun ok s₃ =>
      if ok = true then wpAny (model prog w) A (eval elt env) (fun x s₄ =>
       wpAny (model prog w) A (call (.builtin "list.append") [acc, x]) (fun _ s₅ => ∃ m, m < n /\ I m s₅) (fun _ _ => False) s₄) (notedBy (model prog w) A env fun x s' => R (.error x) s') s₃
      else ∃ m, m < n /\ I m s₃) (fun _ _ => False) s₂) (fun _ _ => False) s₁') (fun _ _ => False) s₁) (fun _ _ => False) s)
  (n : Nat) (h : I n s) : codeAny (model prog w) A (.compLoop (.ListComp elt [⟨target, iter, ifs, 0⟩] scope pos) 0 it acc env) R s := by
 refine codeAny_loop rfl I (fun n s hI => ?_) n h
 show wpAny _ A ((compTurn (.ListComp elt [⟨target, iter, ifs, 0⟩] scope pos) 0 it acc env).onRaise (fun x => do noteFrame x env; theTreesLotGoes x)) _ _ s
 refine wpAny_noted ?_
 rw [compTurn_list]
 refine wpAny_bind (wpAny_standAt (wpAny_bind (wpAny_mono (turn n s hI) (fun r s₁ h₁ => ?_) fun _ _ h' => h'.elim)))
 cases r with
 | none => exact wpAny_pure h₁
 | some v =>
  refine wpAny_bind (wpAny_mono h₁ (fun _ s₁' h₁' => ?_) fun _ _ h' => h'.elim)
  refine wpAny_bind (wpAny_mono h₁' (fun _ s₂ h₂ => wpAny_bind (wpAny_mono h₂ (fun ok s₃ h₃ => ?_) fun _ _ h' => h'.elim)) fun _ _ h' => h'.elim)
  cases ok with
  | false => exact wpAny_pure ⟨rfl, h₃⟩
  | true =>
   exact wpAny_bind (wpAny_bind (wpAny_mono h₃ (fun x s₄ h₄ => wpAny_bind (wpAny_mono h₄ (fun _ s₅ h₅ => wpAny_pure (wpAny_pure ⟨rfl, h₅⟩)) fun _ _ h' => h'.elim)) fun _ _ h' => h'))
section
variable {cb : Bool} {E : XK} {X : Cx} {elt target iter : Expr} {ifs : List Expr} {scope : Scope} {pos : Pos} {N' : List Str} {nt : Nat} {cs : List Nat} {wi : TI} {g : TG} {tt : TT} {te : TE}
theorem zoy {use : Option (Value -> Sem Unit)} {QQ : Value -> Shared -> Prop} {p2 : Pos} (hc : X.calm = true) (L : LcOk X scope N' nt cs) (hi : PI X target iter wi)
  (hg : ∀ s H C fp, PG (lcCx X N' scope s H C fp) target g) (ht : ∀ s H C fp, PIfs (lcCx X N' scope s H C fp) ifs tt) (he : ∀ s H C fp, PE (lcE cb X N' scope s H C fp E) elt te) (out : OutC cb X E)
  {pins : List (Addr × Obj)} {s : Shared} {σ : St} {H : Hp} {Q : VK} (I : Inv X pins σ H s) (h : tLC nt cs wi g tt te σ H Q)
  (fin : ∀ (l : Addr) (H' : Hp) (s' : Shared) (C : Addr), Inv X pins σ H' s' -> FpOk X pins H' C -> (∃ m, s'.heap.Ns C m) -> Q (.ref l) H' -> compPost (model X.prog X.w) X.A X.xe use QQ (.ref l) C (.ok .next) s')
  (hs : ∀ x, foldedSetIterable iter X.env x = pure x := by intro _; rfl) :
  wpAny (model X.prog X.w) X.A (comprehension (.ListComp elt [⟨target, iter, ifs, 0⟩] scope pos) scope X.env p2 (newList []) false (eval iter X.env) use) QQ X.xe s := by
 have hcl : closureFor scope X.env = pure (clos X.env.cells scope.names []) := zgt fun x hx => by
  obtain ⟨c, e⟩ := I.ok.has x (L.fr x hx)
  rw [e]; rfl
 refine wpAny_comprehension_free (env:=X.env) rfl hs hcl L.kind L.loc (thn (hi pins s σ H _ I h) fun v s1 h1 => thn h1 fun itv s2 h2 => ?_)
 obtain ⟨it, fp, tn, J, H1, e, I2, T, st2, f2, R⟩ := h2
 subst e
 refine wpAny_newObj_type ?_
 have hv : Vals [] ([] : List Value) := .nil
 have I3 := I2.lnew (t':=s2.toks) hv (Nat.zero_le _)
 have hfr : H1 s2.heap.objs.size = none := I2.fresh
 have ne3 : ∀ b ∈ fp, b ≠ s2.heap.objs.size := fun b hb z => by
  obtain ⟨o, e, _⟩ := T.obj _ _ st2 b hb
  have := Heap.lt_size e
  rw [z] at this
  exact Nat.lt_irrefl _ this
 have f3 : ∀ b ∈ fp, FpOk X pins (upd H1 s2.heap.objs.size (.lst [])) b := fun b hb => ⟨by rw [zaj (ne3 b hb)]; exact (f2 b hb).1, (f2 b hb).2⟩
 obtain ⟨W, ⟨m0, w0⟩, turn⟩ := R _ hfr
 refine wpAny_newFunctionEnv L.nocell (by intro y hy; simp at hy) (fun h4 hns hsb => ?_) L.kind
 dsimp only at hns hsb ⊢
 generalize hH3 : s2.heap.push { cls := .type "list", dict := none, data := .seq ([] : List Value).toArray } = h3 at hns hsb I3 ⊢
 have hsz3 : h3.objs.size = s2.heap.objs.size + 1 := by rw [<- hH3, Heap.size_push]
 have up4 : ∀ b u, h3.get? b = some u -> h4.get? b = some u := fun b u e => hsb.extBut b u (Nat.ne_of_lt (Heap.lt_size e)) (Heap.get?_push_of_some _ e)
 have fpo : ∀ b ∈ fp, b < h3.objs.size := fun b hb => by
  obtain ⟨o, e, _⟩ := T.obj _ _ st2 b hb
  exact Nat.lt_of_lt_of_le (Heap.lt_size e) (by rw [hsz3]; exact Nat.le_succ _)
 have up3 : ∀ b u, s2.heap.get? b = some u -> h3.get? b = some u := fun b u e => hH3 ▸ Heap.get?_push_of_some _ e
 have J4 : Inv (lcCx X N' scope { s2 with heap := h3 } (upd H1 s2.heap.objs.size (.lst [])) h3.objs.size fp) [] (lcS nt cs σ) (upd H1 s2.heap.objs.size (.lst [])) { s2 with heap := h4, toks := s2.toks + ([] : List (Str × Value)).length } :=
  zkk (t':=s2.toks + ([] : List (Str × Value)).length) I3 L f3 (Nat.le_refl _) up4 (by simpa using hns) fpo
 have st4 : tn 0 h4 := T.keep _ _ _ st2 fun b hb o e => up4 b o (up3 b o e)
 generalize hs3 : ({ s2 with heap := h3 } : Shared) = s3 at I3 J4
 generalize hX' : lcCx X N' scope s3 (upd H1 s2.heap.objs.size (.lst [])) h3.objs.size fp = X' at J4
 have hg' : PG X' target g := hX' ▸ hg _ _ _ _
 have ht' : PIfs X' ifs tt := hX' ▸ ht _ _ _ _
 have he' : PE (X'.wish (xeLC cb X N' scope s3 (upd H1 s2.heap.objs.size (.lst [])) h3.objs.size fp E)) elt te := hX' ▸ he _ _ _ _
 have stat : ∀ {H' : Hp}, (∀ b ∈ fp, H' b = none) -> ∀ b ∈ fp, FpOk X' [] H' b := fun hn b hb => by
  subst hX'
  refine ⟨hn b hb, Nat.ne_of_lt (fpo b hb), J4.ok.exfs b hb, .inl hb, (J4.ok.exf b hb).2, fun p hp => absurd (show p ∈ ([] : List (Addr × Obj)) from hp) (by simp)⟩
 have loop : codeAny (model X.prog X.w) X.A (.compLoop (.ListComp elt [⟨target, iter, ifs, 0⟩] scope pos) 0 (.ref it) (.ref s2.heap.objs.size) (compEnvC scope (clos X.env.cells scope.names []) h3.objs.size X.env))
   (compPost (model X.prog X.w) X.A X.xe use QQ (.ref s2.heap.objs.size) h3.objs.size) { s2 with heap := h4, toks := s2.toks + ([] : List (Str × Value)).length } := by
  have eA : X'.A = X.A := by subst hX'; rfl
  have eP : X'.prog = X.prog := by subst hX'; rfl
  have eW : X'.w = X.w := by subst hX'; rfl
  have eK : X'.K = X.K := by subst hX'; rfl
  have eC : X'.calm = true := by subst hX'; exact hc
  have eE : X'.env = compEnvC scope (clos X.env.cells scope.names []) h3.objs.size X.env := by subst hX'; rfl
  have eX : X'.xe = fun _ _ => False := by subst hX'; rfl
  refine zov (fun n s' => ∃ i H', Inv X' [] (lcS nt cs σ) H' s' /\ tn i s'.heap /\ (∀ b ∈ fp, H' b = none) /\ W i n H') ?_ m0 ⟨0, _, J4, st4, fun b hb => (f3 b hb).1, w0⟩
  rintro n s5 ⟨i, H5, J5, st5, fr5, w5⟩
  rcases turn i n H5 w5 with ⟨stop, qn⟩ | ⟨go, N, hN, step⟩
  ·have d := T.done X' eP eW eK eC i [] s5 (lcS nt cs σ) H5 (fun _ _ => False) J5 (stat fr5) st5 stop
   rw [eA] at d
   refine thn d fun r s6 hz9 => ?_
   obtain ⟨hr, J6⟩ := hz9
   subst hr
   have I6 : Inv X pins σ H5 s6 := by subst hX'; subst hs3; exact zg6 I3 f3 J6
   refine fin _ H5 s6 h3.objs.size I6 ?_ ?_ qn
   ·have hn : H5 h3.objs.size = none := by subst hX'; exact J6.free
    subst hs3
    exact I3.fpOk (Nat.le_refl _) hn
   ·obtain ⟨m, hm, _⟩ := J6.loc
    subst hX'
    exact ⟨m, hm⟩
  ·have d := T.item X' eP eW eK eC i [] s5 (lcS nt cs σ) H5 (fun _ _ => False) J5 (stat fr5) st5 go
   rw [eA] at d
   refine thn d fun r s6 hz9 => ?_
   obtain ⟨u, hr, h6⟩ := hz9
   subst hr
   refine thn h6 fun _ s7 hz9 => ?_
   obtain ⟨x, H7, J7, r7, y7, st7, fr7⟩ := hz9
   have J7' := J7.pinned (stat fr7) (T.obj _ _ st7)
   have a := hg' _ s7 (lcS nt cs σ) H7 x u _ J7' r7 (step x H7 y7)
   rw [eA, eP, eW, eE, eX] at a
   refine thn a fun _ s8 ⟨σ8, H8, J8, ⟨e8, d8⟩, q8⟩ => ?_
   have b := ht' _ s8 σ8 H8 _ J8 q8
   rw [eA, eP, eW, eE, eX] at b
   have again : ∀ {s9 : Shared} {H9 : Hp}, Inv X' ([] ++ zgr fp s7.heap) σ8 H9 s9 -> N H9 -> ∃ m, m < n /\ ∃ i H', Inv X' [] (lcS nt cs σ) H' s9 /\ tn i s9.heap /\ (∀ b ∈ fp, H' b = none) /\ W i m H' := fun {s9 H9} J9 n9 => by
    obtain ⟨m', hm, w9⟩ := hN H9 n9
    refine ⟨m', hm, i + 1, H9, ?_, T.keep _ _ _ st7 fun b hb o e => (J9.pin (b, o) (List.mem_append_right _ (List.mem_append_right _ (zcc hb e)))).1, fun b hb => ?_, w9⟩
    ·refine J9.unpinned.weak ?_ fun j v ej => ?_
     ·rw [e8]; unfold lcS; simp
     ·by_cases hj : j < nt
      ·unfold lcS at ej
       rw [List.getElem?_append_left (by simpa using hj), List.getElem?_replicate] at ej
       split at ej <;> cases ej
      ·have z := congrArg (fun l : St => l[j - nt]?) d8
       simp only [List.getElem?_drop] at z
       rw [show nt + (j - nt) = j by omega] at z
       rw [z]; exact ej
    ·obtain ⟨o, e, _⟩ := T.obj _ _ st7 b hb
     exact (J9.pin (b, o) (List.mem_append_right _ (List.mem_append_right _ (zcc hb e)))).2.1
   refine thn b fun ok s9 hz9 => ?_
   obtain ⟨H9, J9, q9⟩ := hz9
   cases ok with
   | false =>
    rw [if_neg Bool.false_ne_true] at q9 ⊢
    exact again J9 q9
   | true =>
    rw [if_pos rfl] at q9 ⊢
    have ce := he' _ s9 σ8 H9 _ (J9.wish _) q9
    rw [show (X'.wish (xeLC cb X N' scope s3 (upd H1 s2.heap.objs.size (.lst [])) h3.objs.size fp E)).A = X'.A from rfl, show (X'.wish (xeLC cb X N' scope s3 (upd H1 s2.heap.objs.size (.lst [])) h3.objs.size fp E)).env = X'.env from rfl] at ce
    rw [eA, eE] at ce
    have eP2 : (X'.wish (xeLC cb X N' scope s3 (upd H1 s2.heap.objs.size (.lst [])) h3.objs.size fp E)).prog = X.prog := eP
    have eW2 : (X'.wish (xeLC cb X N' scope s3 (upd H1 s2.heap.objs.size (.lst [])) h3.objs.size fp E)).w = X.w := eW
    rw [eP2, eW2] at ce
    refine wpAny_mono ce (fun y sA ⟨vy, HA, JA, ry, xs, hl, hz, nA⟩ => ?_) fun ev sE hE => ?_
    rotate_left
    ·obtain ⟨pins2, σ2, HE, sE0, JE, hC⟩ := hE
     have JE := JE.pins_of (pins':=[]) fun p hp => by cases hp
     obtain ⟨mE, hmE, _⟩ := JE.loc
     have IE : Inv X pins σ HE sE0 := by subst hs3; exact zg6 I3 f3 JE
     have hCf : HE h3.objs.size = none := JE.free
     have sz3 : X.s₀.heap.objs.size <= h3.objs.size := by have := I3.sz; subst hs3; exact this
     have hne : h3.objs.size ≠ X.env.locals := by have := I3.lt; subst hs3; exact Nat.ne_of_gt this
     have hnf : h3.objs.size ∉ X.fs := by have := I3.nofs (a:=h3.objs.size); subst hs3; exact this (Nat.le_refl _)
     have o := out pins σ HE sE0 ev sE h3.objs.size mE IE hmE hCf sz3 hne hnf hC
     cases use <;> exact o
    have JA := JA.unwish
    have ap := zd6 (X:=X') _ sA σ8 HA (.ref s2.heap.objs.size) [vy] (.ref s2.heap.objs.size) [y] (fun _ H' => N H') JA rfl (.cons ry .nil) ⟨_, xs, vy, rfl, rfl, hl, hz, nA⟩
    rw [eA, eP, eW, eX] at ap
    refine thn ap fun _ sB hz9 => ?_
    obtain ⟨_, HB, JB, _, nB⟩ := hz9
    exact again JB nB
 exact codeAny_compStart_list loop (T.self X.A 0 _ _ _ st4 loop)
theorem zri (hc : X.calm = true) (L : LcOk X scope N' nt cs) (hi : PI X target iter wi)
  (hg : ∀ s H C fp, PG (lcCx X N' scope s H C fp) target g) (ht : ∀ s H C fp, PIfs (lcCx X N' scope s H C fp) ifs tt) (he : ∀ s H C fp, PE (lcE cb X N' scope s H C fp E) elt te) (out : OutC cb X E)
  (hs : ∀ x, foldedSetIterable iter X.env x = pure x := by intro _; rfl) : PE X (.ListComp elt [⟨target, iter, ifs, 0⟩] scope pos) (tLC nt cs wi g tt te) := by
 intro pins s σ H Q I h
 rw [eval_ListComp]
 refine zoy (use:=none) hc L hi hg ht he out I h (fun l H' s' C I' f ⟨m, hm⟩ q => ⟨m, hm, fun h' hs' => ?_⟩) hs
 obtain ⟨f0, f1, f2, f3, f4, f5⟩ := f
 exact ⟨.ref l, H', I'.turned (t':=s'.toks) (fun b o hb e => hs'.extBut b o hb e) f0 f1 f3 f4 f5, rfl, q⟩
end
end L2
namespace L2
open PySem PySem.W PySem.Spec PyProof.Rows
section
variable {K : PySem.W.Frag} {G H₀ L : Hp} {ss : List Sl} {t t2 : TA} {ds : List D} {D0 : Ends} {E E' : XK} {C C' CF fI : Addr} {f f' : Str} {pre bad : List D -> Prop} {res err : List D -> D} {n : Int}
theorem zj1 (a : EvAF K G H₀ L ss t ds) (hp : pre ds) (h1 : ¬ bad ds -> RtD K G H₀ D0.rt (res ds)) (hex : exmOne K (.ref C) (.ref CF) = some true) (M : zht K C' fI) (b : EvAF K G H₀ L ss t2 [.int n]) (hn0 : 0 <= n) (hn : n < 1000000) (h : bad ds -> RtX2 K G H₀ E C' f' (.int n)) :
  Go K G H₀ L D0 ss (zfy K H₀ E (SpX K C f pre bad res err) t CF (zh0 C' (zi8 C' f') E' t2)) := fun F H σ S =>
 a F H σ _ S fun vs F1 H1 e1 r1 => ⟨F1, ds, e1.fh, r1, hp, fun nb v F2 H2 e2 rv => h1 nb _ _ _ ((S.ext.trans e1).trans e2) rv, fun hbad dx v F2 H2 e2 hdx rv => ⟨C, rfl, hex, zde (D0:=D0) (E':=E') M b hn0 hn (h hbad) F2 H2 σ (S.ext2 (e1.trans e2))⟩⟩
theorem zpj {wi : TI} {g : TG} {te : TE} {nt : Nat} {cs : List Nat} {n k : Nat} {y : Nat -> D} (hkn : k < n) (fv : Nat -> D) (a : EvI K G H₀ L ss wi n y) (hk : GK nt g) (hc : cs.Nodup) (hz : n < sizeLine)
  (hs : ∀ i, i < k -> ∃ ss', Tg K G H₀ L g (y i) (lcSl nt cs ss) ss' /\ Ev K G H₀ L ss' te (fv i)) (hx : ∃ ss', Tg K G H₀ L g (y k) (lcSl nt cs ss) ss' /\ EvR K G H₀ L ss' te) :
  EvR K G H₀ L ss (tLC nt cs wi g zf8 te) := fun F H σ Q S =>
 a F H σ _ S fun F1 H1 J e1 it => by
  intro l hl
  have S1 := S.ext2 e1
  refine ⟨fun i m H2 => m = n - i /\ i <= k /\ ∃ F2 vs, Ext F1 H1 F2 H2 /\ F2 l = none /\ H2 l = some (.lst vs) /\ vs.length <= i,
   ⟨n, by lia, Nat.zero_le _, F1, [], (Ext.refl e1.fh).newO hl, e1.fh.free hl, zah, Nat.le_refl _⟩, ?_⟩
  rintro i m H2 ⟨rfl, hi, F2, vs, e2, fl, hl2, hvs⟩
  obtain ⟨it1, it2⟩ := it F2 H2 e2.gf e2.hh e2.fh
  obtain ⟨go, yl⟩ := it1 i (by lia)
  refine .inr ⟨go, fun H' => i < k /\ ∃ F2 vs, Ext F1 H1 F2 H' /\ F2 l = none /\ H' l = some (.lst vs) /\ vs.length <= i + 1, fun H' h => ⟨n - (i + 1), by omega, rfl, h.1, h.2⟩, fun x H3 yx => ?_⟩
  obtain ⟨F3, e3, rx⟩ := yl x H3 yx
  have S3 := ((S1.ext2 e2).ext2 e3).lc (nt:=nt) hc
  have hl3 : H3 l = some (.lst vs) := e3.hh l _ hl2
  have fl3 : F3 l = none := (e3.no l _ hl2).trans fl
  by_cases hik : i < k
  ·obtain ⟨ss', tg, ev⟩ := hs i hik
   have base := tg F3 H3 (lcS nt cs σ) x (fun σ2 H4 => H4 = H3 /\ Sat K G H₀ L F3 H3 σ2 ss') S3 rx fun σ' S' => ⟨rfl, S'⟩
   refine hk _ _ _ _ _ (fun σ2 H4 q l1 d1 => ⟨⟨by rw [l1]; simp [lcS], d1⟩, ?_⟩) base
   obtain ⟨rfl, S2⟩ := q
   unfold zf8
   refine iteT ?_
   refine ev _ _ σ2 _ S2 fun v F5 H5 e5 rv => ⟨vs, e5.hh l _ hl3, by lia, hik, F5, vs ++ [v], ?_, (e5.no l _ hl3).trans fl3, zah, by simp; omega⟩
   exact ((e2.trans e3).trans e5).write ((e5.no l _ hl3).trans fl3) hl
  ·have ei : i = k := by lia
   subst ei
   obtain ⟨ss', tg, ev⟩ := hx
   have base := tg F3 H3 (lcS nt cs σ) x (fun σ2 H4 => H4 = H3 /\ Sat K G H₀ L F3 H3 σ2 ss') S3 rx fun σ' S' => ⟨rfl, S'⟩
   refine hk _ _ _ _ _ (fun σ2 H4 q l1 d1 => ⟨⟨by rw [l1]; simp [lcS], d1⟩, ?_⟩) base
   obtain ⟨rfl, S2⟩ := q
   unfold zf8
   exact iteT (ev _ _ σ2 _ S2)
theorem zqz {α : Type} (xs : List α) (enc fv : α -> D) (k : Nat) (z : α) (hkz : xs[k]? = some z) {tl : TE} {g : TG} {te : TE} {nt : Nat} {cs : List Nat} (a : EvL K G H₀ L ss tl (xs.map enc)) (hk : GK nt g) (hc : cs.Nodup) (hz : xs.length < sizeLine)
  (hs : ∀ i x, i < k -> xs[i]? = some x -> ∃ ss', Tg K G H₀ L g (enc x) (lcSl nt cs ss) ss' /\ Ev K G H₀ L ss' te (fv x)) (hx : ∃ ss', Tg K G H₀ L g (enc z) (lcSl nt cs ss) ss' /\ EvR K G H₀ L ss' te) :
  EvR K G H₀ L ss (tLC nt cs (zm3 K tl) g zf8 te) := by
 have hkl : k < xs.length := (List.getElem?_eq_some_iff.mp hkz).1
 have eg : ∀ i x, xs[i]? = some x -> (xs.map enc).getD i .non = enc x := fun i x e => by
  rw [List.getD_eq_getElem?_getD, List.getElem?_map, e]; rfl
 refine zpj (n:=(xs.map enc).length) (k:=k) (by rw [List.length_map]; exact hkl) (fun i => fv (xs.getD i z)) (zhe a) hk hc (by rw [List.length_map]; exact hz) (fun i hi => ?_) (by rw [eg k z hkz]; exact hx)
 have hil : i < xs.length := by lia
 have e := List.getElem?_eq_getElem hil
 rw [eg i _ e, List.getD_eq_getElem?_getD, e]
 exact hs i _ hi e
end
end L2
namespace L2
open PySem PySem.W PySem.Spec PyProof.Rows
section
variable {X : Cx}
theorem zk5 {c : Bool} {k : Nat} {f CF : Addr} {fd : FuncData} {ps : List Str} {sp : Sp} {fn cn n : Str} {p pos ep np hp : Pos} {e : Expr} {es : List Expr} {ta : TA} {i : Nat} {b₀ : Stmt} {suite : List Stmt} {ts : TS} {pins : List (Addr × Obj)} {s : Shared} {σ : St} {H : Hp} {D : Ends}
  (F : FnOk X.prog X.w X.K X.mg X.base (CXB c X.prog X.w) k f fd ps sp) (hr : Room k X.A) (hg : Gl X fn) (hm : X.mg fn = some (.ref f)) (hk : PySem.W.keepIn X.K (.ref f) = true) (hb : zbw X.K fd ps []) (ha : PA X.nox (e :: es) ta)
  (hgc : Gl X cn) (hmc : X.mg cn = some (.ref CF)) (hN : X.N.Nodup) (hi : X.N[i]? = some n) (hx : X.env.scope.names.lookup n = some .local) (hs : ∀ x, PSs (X.inSuite x) (b₀ :: suite) ts) (hst : X.stack = X.env :: X.outer /\ X.env.frame = some X.env.locals /\ X.ex = [])
  (hdb : (fn == ("__debug__" : Str)) = false) (hdc : (cn == ("__debug__" : Str)) = false) (he : starEach (e :: es) X.env = (false, eval e X.env) :: starEach es X.env) (hpl : (backTo pos (starEach es X.env)).any (·.1) = false)
  (hsw : swapsWith (.Call (.Name fn p) (e :: es) [] pos) none ep.line X.env = pure false) (I : Inv X pins σ H s) (h : zg4 X.K sp ta i CF ts D σ H) :
  wpAny (model X.prog X.w) X.A (execs [.Expr (.Call (.Name fn p) (e :: es) [] pos) ep] X.env) (fun f s₁ => match f with | .next => wpAny (model X.prog X.w) X.A (execs [] X.env) (SP X pins D) X.xe s₁ | f => SP X pins D f s₁)
   (fun ev s₁ => wpAny (model X.prog X.w) X.A (noteFrame ev X.env) (fun _ s₂ => wpAny (model X.prog X.w) X.A (setFlight ev none) (fun _ s₃ => wpAny (model X.prog X.w) X.A (handleBy ev X.env [.ExceptHandler (some (.Name cn np)) (some n) (b₀ :: suite) hp]) (SP X pins D) X.xe s₃) X.xe s₂) X.xe s₁) s := by
 refine wpAny_execs_cons (wpAny_Expr_any (wpAny_Call_Name_kw (zc2 I hg hm ?_ hdb)) I.quiet hsw)
 refine PySem.W.callWith_K (h₀:=X.base) I.ok.mod.kin hk (wpAny_mono (ha pos pins s σ H _ (I.wish _) h) (fun us s1 ⟨vs, H1, I1, r, q⟩ => ⟨I1.unwish.kIn, ?_⟩) fun _ _ z => z.elim) he hpl
 have I1 := I1.unwish
 have hl : (us ++ []).length = ps.length := by rw [List.append_nil, <- r.length]; exact F.len _ _ _ _ q
 have hb' := hb s1 us I1.kIn hl
 rw [List.append_nil] at hb'
 refine wpAny_call (codeAny_mono (F.run X.A X.stack s1 H1 ⟨us, []⟩ us vs _ _ hr I1.env0 hb' r q) fun r s2 hq => ?_)
 cases r with
 | ok fl =>
  cases fl with
  | ret u =>
   obtain ⟨v, H2, I2, _, q2⟩ := I1.after hq
   exact wpAny_execs_nil (wpAny_execs_nil ⟨σ, H2, I2, q2⟩)
  | next => exact False.elim hq
  | brk => exact False.elim hq
  | cont => exact False.elim hq
 | error ev => exact zn3 I1 hgc hmc hN hi hx hs hst hq hdc
theorem zoe {c1 c2 : Bool} {k1 k2 : Nat} {f1 f2 CF : Addr} {fd1 fd2 : FuncData} {ps1 ps2 : List Str} {sp1 sp2 : Sp} {fn1 fn2 cn n : Str} {p1 p2 pos1 pos2 ep1 ep2 np hp tp ip : Pos} {c e1 e2 : Expr} {es1 es2 : List Expr} {ta1 ta2 : TA} {tc : TT} {i : Nat} {b₀ : Stmt} {suite : List Stmt} {ts : TS}
  (hc : PT X.nox c tc)
  (F1 : FnOk X.prog X.w X.K X.mg X.base (CXB c1 X.prog X.w) k1 f1 fd1 ps1 sp1) (hr1 : Room k1 X.A) (hg1 : Gl X fn1) (hm1 : X.mg fn1 = some (.ref f1)) (hk1 : PySem.W.keepIn X.K (.ref f1) = true) (hb1 : zbw X.K fd1 ps1 []) (ha1 : PA X.nox (e1 :: es1) ta1)
  (F2 : FnOk X.prog X.w X.K X.mg X.base (CXB c2 X.prog X.w) k2 f2 fd2 ps2 sp2) (hr2 : Room k2 X.A) (hg2 : Gl X fn2) (hm2 : X.mg fn2 = some (.ref f2)) (hk2 : PySem.W.keepIn X.K (.ref f2) = true) (hb2 : zbw X.K fd2 ps2 []) (ha2 : PA X.nox (e2 :: es2) ta2)
  (hgc : Gl X cn) (hmc : X.mg cn = some (.ref CF)) (hN : X.N.Nodup) (hi : X.N[i]? = some n) (hx : X.env.scope.names.lookup n = some .local) (hs : ∀ x, PSs (X.inSuite x) (b₀ :: suite) ts) (hst : X.stack = X.env :: X.outer /\ X.env.frame = some X.env.locals /\ X.ex = [])
  (hdb1 : (fn1 == ("__debug__" : Str)) = false := by decide) (hdb2 : (fn2 == ("__debug__" : Str)) = false := by decide) (hdc : (cn == ("__debug__" : Str)) = false := by decide)
  (he1 : starEach (e1 :: es1) X.env = (false, eval e1 X.env) :: starEach es1 X.env := by rfl) (hpl1 : (backTo pos1 (starEach es1 X.env)).any (·.1) = false := by rfl) (hsw1 : swapsWith (.Call (.Name fn1 p1) (e1 :: es1) [] pos1) none ep1.line X.env = pure false := by rfl)
  (he2 : starEach (e2 :: es2) X.env = (false, eval e2 X.env) :: starEach es2 X.env := by rfl) (hpl2 : (backTo pos2 (starEach es2 X.env)).any (·.1) = false := by rfl) (hsw2 : swapsWith (.Call (.Name fn2 p2) (e2 :: es2) [] pos2) none ep2.line X.env = pure false := by rfl) :
  PS X (.Try [.If c [.Expr (.Call (.Name fn1 p1) (e1 :: es1) [] pos1) ep1] [.Expr (.Call (.Name fn2 p2) (e2 :: es2) [] pos2) ep2] ip] [.ExceptHandler (some (.Name cn np)) (some n) (b₀ :: suite) hp] [] [] tp) (tIfS tc (zg4 X.K sp1 ta1 i CF ts) (zg4 X.K sp2 ta2 i CF ts)) := by
 intro pins s σ H D I h
 refine wpAny_Try_except (wpAny_execs_cons (wpAny_If (wpAny_mono (hc pins s σ H _ (I.wish _) h) (fun d s0 hz => ?_) fun _ _ z => z.elim)))
 obtain ⟨H0, I0, q0⟩ := hz
 have I0 := I0.unwish
 cases d with
 | true =>
  rw [if_pos rfl] at q0 ⊢
  refine wpAny_mono (zk5 F1 hr1 hg1 hm1 hk1 hb1 ha1 hgc hmc hN hi hx hs hst hdb1 hdc he1 hpl1 hsw1 I0 q0) (fun f s1 hf => ?_) fun _ _ z => z
  cases f with
  | next => exact wpAny_execs_nil hf
  | ret u => exact hf
  | brk => exact hf
  | cont => exact hf
 | false =>
  rw [if_neg Bool.false_ne_true] at q0 ⊢
  refine wpAny_mono (zk5 F2 hr2 hg2 hm2 hk2 hb2 ha2 hgc hmc hN hi hx hs hst hdb2 hdc he2 hpl2 hsw2 I0 q0) (fun f s1 hf => ?_) fun _ _ z => z
  cases f with
  | next => exact wpAny_execs_nil hf
  | ret u => exact hf
  | brk => exact hf
  | cont => exact hf
end
end L2
namespace L2
open PySem PySem.W PySem.Spec PyProof.Rows
@[irreducible] noncomputable def IE (X : Cx) (e : Expr) (t : TE) : Prop := PE X e t
@[irreducible] noncomputable def IA (X : Cx) (es : List Expr) (t : TA) : Prop := PA X es t
@[irreducible] noncomputable def IT (X : Cx) (e : Expr) (t : TT) : Prop := PT X e t
@[irreducible] noncomputable def IS (X : Cx) (st : Stmt) (t : TS) : Prop := PS X st t
@[irreducible] noncomputable def ISs (X : Cx) (st : List Stmt) (t : TS) : Prop := PSs X st t
section
variable {X : Cx} {e a b : Expr} {es : List Expr} {te ta tb : TE} {t : TA} {tc : TT} {ts tu : TS} {st : Stmt} {rest sa sb : List Stmt} {pos : Pos}
theorem zhs (h : PE X e te) : IE X e te := by unfold IE; exact h
theorem zc3 (h : IE X e te) : PE X e te := by unfold IE at h; exact h
theorem zrn (h : PA X es t) : IA X es t := by unfold IA; exact h
theorem zkh (h : IA X es t) : PA X es t := by unfold IA at h; exact h
theorem zsp (h : PT X e tc) : IT X e tc := by unfold IT; exact h
theorem zsg (h : IT X e tc) : PT X e tc := by unfold IT at h; exact h
theorem zqa (h : PS X st ts) : IS X st ts := by unfold IS; exact h
theorem zo5 (h : IS X st ts) : PS X st ts := by unfold IS at h; exact h
theorem zml (h : PSs X rest ts) : ISs X rest ts := by unfold ISs; exact h
theorem zha (h : ISs X rest ts) : PSs X rest ts := by unfold ISs at h; exact h
theorem zd1 : ISs X [] zp5 := zml zbt
theorem zch (h1 : IS X st ts) (h2 : ISs X rest tu) : ISs X (st :: rest) (tSeq ts tu) := zml (zai (zo5 h1) (zha h2))
theorem zdd (h1 : IS X st ts) : ISs X [st] ts := zml (zao (zo5 h1))
theorem zra {i : Nat} {x : Str} {pos' : Pos} (hN : X.N.Nodup) (hi : X.N[i]? = some x) (hx : Loc X.env.scope x) (he : IE X e te) (hs : swapsWith e (some (.Name x pos')) pos.line X.env = pure false := by rfl) (hf : X.fn x = true \/ X.env.scope.names.lookup x = some .local := by first | exact .inl rfl | exact .inr rfl | assumption) :
  IS X (.Assign [.Name x pos'] e pos) (tAsg te (zgh i)) := zqa (zb2 hN hi hx (zc3 he) hs hf)
theorem zjx (hc : IT X e tc) (ha : ISs X sa ts) (hb : ISs X sb tu) : IS X (.If e sa sb pos) (tIfS tc ts tu) := zqa (zdb (zsg hc) (zha ha) (zha hb))
theorem zet (he : IE X e te) : IS X (.Return (some e) pos) (tRet te) := zqa (zbs (zc3 he))
theorem zau {x j pos} : IE X (.Constant (.str x) j pos) (tC (.str x)) := zhs zal
theorem zbr {i j pos} : IE X (.Constant (.int i) j pos) (tC (.int i)) := zhs zas
theorem iv (i : Nat) {x : Str} (hN : X.N[i]? = some x := by rfl) (hv : Vis X.env.scope x := by first | exact Or.inl rfl | exact Or.inr (Or.inl rfl) | exact Or.inr (Or.inr rfl)) (hd : (x == ("__debug__" : Str)) = false := by decide) (hcd : (x == ("__classdict__" : Str)) = false := by decide) : IE X (.Name x pos) (tVar i) := zhs (pv i hN hv hd hcd)
theorem zbx : IA X [] tNil := zrn zag
theorem zak (ha : IE X e te) (hr : IA X es t) (hs : starEach (e :: es) X.env = (false, eval e X.env) :: starEach es X.env := by rfl) : IA X (e :: es) (zbf te t) := zrn (zab (zc3 ha) (zkh hr) hs)
theorem zc8 (h : IA X es t) : IE X (.List es pos) (tLst t) := zhs (zdt (zkh h))
theorem zdg {op : Operator} {r : R2} (ho : OpR X (binaryOp op) r) (ha : IE X a ta) (hb : IE X b tb) : IE X (.BinOp a op b pos) (tOp r ta tb) := zhs (zb1 ho (zc3 ha) (zc3 hb))
theorem zf6 {r : R2} (hr : IxR X r) (ha : IE X a ta) (hb : IE X b tb) (hs : zne b) : IE X (.Subscript a b pos) (tOp r ta tb) := zhs (zdo hr (zc3 ha) (zc3 hb) hs)
theorem zdy {op : CmpOp} {r : R2} (ho : OpR X (compareOp op) r) (ha : IE X a ta) (hb : IE X b tb) (hm : behindInMarks op b = false) : IT X (.Compare a [op] [b] pos) (zlk (tOp r ta tb)) := zsp (zbc ho (zc3 ha) (zc3 hb) hm)
theorem zd3 (h : IE X e te) : PO X (some e) (zmc te) := zhr (zc3 h)
theorem zcy {lo hi : Option Expr} {tl th : TO} {p2 : Pos} {r : V -> Option Int -> Option Int -> Hp -> VK -> Prop} (hr : SlR X r) (he : IE X e te) (hl : PO X lo tl) (hu : PO X hi th) : IE X (.Subscript e (.Slice lo hi none p2) pos) (tSl r te tl th) := zhs (zfd hr (zc3 he) hl hu)
theorem zhg {T id : String} {name : Str} {r : V -> List V -> Hp -> VK -> Prop} {o : Expr} {to : TE} {apos cpos : Pos} (pa : PlainAttrs T) (slot : Slot T name id) (hty : typeOf (.builtin id) = pure (.type "method_descriptor")) (hm : MtR X id r) (ho : IE X o to) (ha : IA X (e :: es) t)
  (hbase : attributeBase o name X.env (eval o X.env) = eval o X.env := by rfl)
  (hfew : ((backTo cpos (starEach (e :: es) X.env)).all (fun x => !x.1) && (backToKw cpos (keywordEach [] X.env)).all (fun x => x.1.isSome)
   && decide ((e :: es).length + ([] : List Keyword).length + (if ([] : List Keyword).isEmpty then 0 else 1) < 30)) = true := by rfl)
  (hline : (apos.endLine == cpos.line) = true := by rfl) (hs : starEach (e :: es) X.env = (false, eval e X.env) :: starEach es X.env := by rfl) (hplain : (backTo cpos (starEach es X.env)).any (·.1) = false := by rfl) :
  IE X (.Call (.Attribute o name apos) (e :: es) [] cpos) (tBM X.K T r to t) := zhs (ze2 pa slot hty hm (zc3 ho) (zkh ha) hbase hfew hline hs hplain)
theorem zqc {CX : CXT} {k : Nat} {f : Addr} {fd : FuncData} {ps : List Str} {sp : Sp} {dvs : List V} {ds : List Value} {E : XK} {x : Str} {p : Pos} (F : FnOk X.prog X.w X.K X.mg X.base CX k f fd ps sp) (hr : Room k X.A) (hg : Gl X x) (hm : X.mg x = some (.ref f)) (hk : PySem.W.keepIn X.K (.ref f) = true) (hb : zbw X.K fd ps ds) (hd : Vals dvs ds) (hx : zc5 CX X E)
  (ha : IA X (e :: es) t) (hdb : (x == ("__debug__" : Str)) = false := by decide) (he : starEach (e :: es) X.env = (false, eval e X.env) :: starEach es X.env := by rfl) (hpl : (backTo pos (starEach es X.env)).any (·.1) = false := by rfl) :
  IE X (.Call (.Name x p) (e :: es) [] pos) (zex sp dvs E t) := zhs (zbv F hr hg hm hk hb hd hx (zkh ha) hdb he hpl)
end
end L2
set_option maxHeartbeats 8000000
namespace My
open PySem L2 PyProof.Rows
noncomputable def top (i : Nat) : Stmt := PySem.Challenge.pw_folk_k22_rules_refused.main.body.getD i (.Pass ⟨0, 0, 0, 0⟩)
noncomputable def zph (i j : Nat) : Stmt := match top i with
 | .ClassDef _ _ _ b _ _ _ _ _ _ _ => b.getD j (.Pass ⟨0, 0, 0, 0⟩)
 | s => s
noncomputable abbrev zbb : Stmt := zph 3 0
theorem zd7 : FnScope ["self", "row"] ["self", "row"] (zac zbb) := ⟨rfl, rfl, rfl, by decide +kernel, rfl, by decide +kernel, by decide +kernel⟩
noncomputable abbrev zay : Stmt := top 9
theorem zfz : FnScope ["row"] ["row"] (zac zay) := ⟨rfl, rfl, rfl, by decide +kernel, rfl, by decide +kernel, by decide +kernel⟩
noncomputable abbrev zbe : Stmt := top 10
theorem zes : FnScope ["text", "rows"] ["text"] (zac zbe) := ⟨rfl, rfl, rfl, by decide +kernel, rfl, by decide +kernel, by decide +kernel⟩
noncomputable abbrev zbk : Stmt := zph 14 0
theorem zb9 : FnScope ["self", "weight", "field"] ["self", "weight", "field"] (zac zbk) := ⟨rfl, rfl, rfl, by decide +kernel, rfl, by decide +kernel, by decide +kernel⟩
noncomputable abbrev za3 : Stmt := zph 19 0
theorem zgl : FnScope ["self", "weight"] ["self", "weight"] (zac za3) := ⟨rfl, rfl, rfl, by decide +kernel, rfl, by decide +kernel, by decide +kernel⟩
noncomputable abbrev zbp : Stmt := top 20
theorem ziv : FnScope ["weight", "field", "word"] ["weight", "field", "word"] (zac zbp) := ⟨rfl, rfl, rfl, by decide +kernel, rfl, by decide +kernel, by decide +kernel⟩
noncomputable abbrev zbd : Stmt := top 21
theorem zi9 : FnScope ["word"] ["word"] (zac zbd) := ⟨rfl, rfl, rfl, by decide +kernel, rfl, by decide +kernel, by decide +kernel⟩
noncomputable abbrev zbm : Stmt := top 22
theorem zc7 : FnScope ["row", "words", "amount"] ["row"] (zac zbm) := ⟨rfl, rfl, rfl, by decide +kernel, rfl, by decide +kernel, by decide +kernel⟩
noncomputable abbrev zav : Stmt := top 23
theorem zey : FnScope ["number", "row"] ["number", "row"] (zac zav) := ⟨rfl, rfl, rfl, by decide +kernel, rfl, by decide +kernel, by decide +kernel⟩
noncomputable abbrev za5 : Stmt := top 24
theorem zhc : FnScope ["text"] ["text"] (zac za5) := ⟨rfl, rfl, rfl, by decide +kernel, rfl, by decide +kernel, by decide +kernel⟩
noncomputable abbrev za4 : Stmt := top 26
theorem zgp : FnScope ["_law_script", "_law_k"] ["_law_script", "_law_k"] (zac za4) := ⟨rfl, rfl, rfl, by decide +kernel, rfl, by decide +kernel, by decide +kernel⟩
noncomputable abbrev zbn : Stmt := top 27
theorem zis : FnScope ["_law_found"] ["_law_found"] (zac zbn) := ⟨rfl, rfl, rfl, by decide +kernel, rfl, by decide +kernel, by decide +kernel⟩
noncomputable abbrev zbo : Stmt := top 28
theorem zbz : FnScope ["_law_cell", "_law_way", "_law_number", "_law_field", "_law_sort"] ["_law_cell"] (zac zbo) := ⟨rfl, rfl, rfl, by decide +kernel, rfl, by decide +kernel, by decide +kernel⟩
noncomputable abbrev zar : Stmt := top 29
theorem zcv : FnScope ["_law_number", "_law_draw", "_law_some"] ["_law_number", "_law_draw"] (zac zar) := ⟨rfl, rfl, rfl, by decide +kernel, rfl, by decide +kernel, by decide +kernel⟩
noncomputable abbrev za1 : Stmt := top 30
theorem zdv : FnScope ["_law_words_here", "_law_way", "_law_draw", "_law_row"] ["_law_words_here", "_law_way", "_law_draw"] (zac za1) := ⟨rfl, rfl, rfl, by decide +kernel, rfl, by decide +kernel, by decide +kernel⟩
noncomputable abbrev za2 : Stmt := top 31
theorem zb7 : FnScope ["_law_row", "_law_number", "_law_whole_here", "_law_caught", "e"] ["_law_row", "_law_number", "_law_whole_here"] (zac za2) := ⟨rfl, rfl, rfl, by decide +kernel, rfl, by decide +kernel, by decide +kernel⟩
noncomputable abbrev zgi : Stmt := top 32
theorem zd8 : FnScope ["_law_script", "_law_rows", "_law_k", "_law_words_here", "_law_cell", "_law_bad", "_law_some", "_law_at"] ["_law_script"] (zac zgi) := ⟨rfl, rfl, rfl, by decide +kernel, rfl, by decide +kernel, by decide +kernel⟩
set_option genInjectivity false in
set_option genSizeOf false in
structure Ad where
 (c_FolkError c_Former c_Like c_Near c_NoName c_NoPair c_NoRow c_NoText c_Other c_Rule c_Same k_FIELDS f_NoRow_init f_is_passed_by f_told_rows f_Rule_init f_Former_init f_made_rule f_is_amount f_read_rule f_numbered_rule f_read_rules f_law_cell_at f_law_whole f_law_words f_law_bad_number f_law_spoiled f_law_refused f_law : Addr)
 (u_FIGURES u_GREATEST : Value)
 (d_NoRow_init d_is_passed_by d_told_rows d_Rule_init d_Former_init d_made_rule d_is_amount d_read_rule d_numbered_rule d_read_rules d_law_cell_at d_law_whole d_law_words d_law_bad_number d_law_spoiled d_law_refused d_law : FuncData)
structure Tx (K : PySem.W.Frag) (mg : Str -> Option Value) (ad0 : Ad) : Prop where
 M_FolkError : mg "FolkError" = some (.ref ad0.c_FolkError)
 M_Former : mg "Former" = some (.ref ad0.c_Former)
 M_Like : mg "Like" = some (.ref ad0.c_Like)
 M_Near : mg "Near" = some (.ref ad0.c_Near)
 M_NoName : mg "NoName" = some (.ref ad0.c_NoName)
 M_NoPair : mg "NoPair" = some (.ref ad0.c_NoPair)
 M_NoRow : mg "NoRow" = some (.ref ad0.c_NoRow)
 M_NoText : mg "NoText" = some (.ref ad0.c_NoText)
 M_Other : mg "Other" = some (.ref ad0.c_Other)
 M_Rule : mg "Rule" = some (.ref ad0.c_Rule)
 M_Same : mg "Same" = some (.ref ad0.c_Same)
 XM_NoRow : XMk K ad0.c_NoRow ad0.f_NoRow_init
 XS_NoRow_row : XStore K ad0.c_NoRow "row"
 CB_FolkError : CInitB K ad0.c_FolkError
 Cl_Same : Cls K ad0.c_Same
 Mk_Same : Mk K ad0.c_Same ad0.f_Rule_init
 Cl_Like : Cls K ad0.c_Like
 Mk_Like : Mk K ad0.c_Like ad0.f_Rule_init
 Cl_Near : Cls K ad0.c_Near
 Mk_Near : Mk K ad0.c_Near ad0.f_Rule_init
 Cl_Other : Cls K ad0.c_Other
 Mk_Other : Mk K ad0.c_Other ad0.f_Rule_init
 Cl_Former : Cls K ad0.c_Former
 Mk_Former : Mk K ad0.c_Former ad0.f_Former_init
 T_NoRow : XTell K ad0.c_NoRow
 H_NoRow_NoRow : PySem.W.exmOne K (.ref ad0.c_NoRow) (.ref ad0.c_NoRow) = some true
 H_NoRow_FolkError : PySem.W.exmOne K (.ref ad0.c_NoRow) (.ref ad0.c_FolkError) = some true
 I_NoRow_ValueError : PySem.W.kitOne K (.ref ad0.c_NoRow) (.type "ValueError") = some true
 I_NoRow_NoRow : PySem.W.kitOne K (.ref ad0.c_NoRow) (.ref ad0.c_NoRow) = some true
 I_NoRow_NoName : PySem.W.kitOne K (.ref ad0.c_NoRow) (.ref ad0.c_NoName) = some false
 I_NoRow_NoText : PySem.W.kitOne K (.ref ad0.c_NoRow) (.ref ad0.c_NoText) = some false
 I_NoRow_NoPair : PySem.W.kitOne K (.ref ad0.c_NoRow) (.ref ad0.c_NoPair) = some false
 Na_NoRow_row : zbu K ad0.c_NoRow "row"
 Na_Same_field : zbu K ad0.c_Same "field"
 Na_Like_field : zbu K ad0.c_Like "field"
 Na_Near_field : zbu K ad0.c_Near "field"
 Na_Other_field : zbu K ad0.c_Other "field"
 Na_Former_field : zbu K ad0.c_Former "field"
 Ca_Rule_init : CMeth K ad0.c_Rule "__init__" ad0.f_Rule_init
 Na_Former_weight : zbu K ad0.c_Former "weight"
 Na_Like_weight : zbu K ad0.c_Like "weight"
 Na_Near_weight : zbu K ad0.c_Near "weight"
 Na_Other_weight : zbu K ad0.c_Other "weight"
 Na_Same_weight : zbu K ad0.c_Same "weight"
 M_FIELDS : mg "FIELDS" = some (.ref ad0.k_FIELDS)
 K_FIELDS : TupK K ad0.k_FIELDS [[110, 97, 109, 101], [102, 111, 114, 109, 101, 114], [119, 97, 121], [100, 97, 121], [109, 97, 114, 107]]
 M_FIGURES : mg "FIGURES" = some ad0.u_FIGURES
 R_FIGURES : RelV (.str (T [48, 49, 50, 51, 52, 53, 54, 55, 56, 57])) ad0.u_FIGURES
 M_GREATEST : mg "GREATEST" = some ad0.u_GREATEST
 R_GREATEST : RelV (.int 1000000000) ad0.u_GREATEST
 F_NoRow_init : Fun K "__init__" "NoRow.__init__" zbb ad0.f_NoRow_init ad0.d_NoRow_init
 B_NoRow_init : zbw K ad0.d_NoRow_init ["self", "row"] []
 F_is_passed_by : Fun K "is_passed_by" "is_passed_by" zay ad0.f_is_passed_by ad0.d_is_passed_by
 B_is_passed_by : zbw K ad0.d_is_passed_by ["row"] []
 M_is_passed_by : mg "is_passed_by" = some (.ref ad0.f_is_passed_by)
 F_told_rows : Fun K "told_rows" "told_rows" zbe ad0.f_told_rows ad0.d_told_rows
 B_told_rows : zbw K ad0.d_told_rows ["text"] []
 M_told_rows : mg "told_rows" = some (.ref ad0.f_told_rows)
 F_Rule_init : Fun K "__init__" "Rule.__init__" zbk ad0.f_Rule_init ad0.d_Rule_init
 B_Rule_init : zbw K ad0.d_Rule_init ["self", "weight", "field"] []
 F_Former_init : Fun K "__init__" "Former.__init__" za3 ad0.f_Former_init ad0.d_Former_init
 B_Former_init : zbw K ad0.d_Former_init ["self", "weight"] []
 F_made_rule : Fun K "made_rule" "made_rule" zbp ad0.f_made_rule ad0.d_made_rule
 B_made_rule : zbw K ad0.d_made_rule ["weight", "field", "word"] []
 M_made_rule : mg "made_rule" = some (.ref ad0.f_made_rule)
 F_is_amount : Fun K "is_amount" "is_amount" zbd ad0.f_is_amount ad0.d_is_amount
 B_is_amount : zbw K ad0.d_is_amount ["word"] []
 M_is_amount : mg "is_amount" = some (.ref ad0.f_is_amount)
 F_read_rule : Fun K "read_rule" "read_rule" zbm ad0.f_read_rule ad0.d_read_rule
 B_read_rule : zbw K ad0.d_read_rule ["row"] []
 M_read_rule : mg "read_rule" = some (.ref ad0.f_read_rule)
 F_numbered_rule : Fun K "numbered_rule" "numbered_rule" zav ad0.f_numbered_rule ad0.d_numbered_rule
 B_numbered_rule : zbw K ad0.d_numbered_rule ["number", "row"] []
 M_numbered_rule : mg "numbered_rule" = some (.ref ad0.f_numbered_rule)
 F_read_rules : Fun K "read_rules" "read_rules" za5 ad0.f_read_rules ad0.d_read_rules
 B_read_rules : zbw K ad0.d_read_rules ["text"] []
 M_read_rules : mg "read_rules" = some (.ref ad0.f_read_rules)
 F_law_cell_at : Fun K "_law_cell_at" "_law_cell_at" za4 ad0.f_law_cell_at ad0.d_law_cell_at
 B_law_cell_at : zbw K ad0.d_law_cell_at ["_law_script", "_law_k"] []
 M_law_cell_at : mg "_law_cell_at" = some (.ref ad0.f_law_cell_at)
 F_law_whole : Fun K "_law_whole" "_law_whole" zbn ad0.f_law_whole ad0.d_law_whole
 B_law_whole : zbw K ad0.d_law_whole ["_law_found"] []
 M_law_whole : mg "_law_whole" = some (.ref ad0.f_law_whole)
 F_law_words : Fun K "_law_words" "_law_words" zbo ad0.f_law_words ad0.d_law_words
 B_law_words : zbw K ad0.d_law_words ["_law_cell"] []
 M_law_words : mg "_law_words" = some (.ref ad0.f_law_words)
 F_law_bad_number : Fun K "_law_bad_number" "_law_bad_number" zar ad0.f_law_bad_number ad0.d_law_bad_number
 B_law_bad_number : zbw K ad0.d_law_bad_number ["_law_number", "_law_draw"] []
 M_law_bad_number : mg "_law_bad_number" = some (.ref ad0.f_law_bad_number)
 F_law_spoiled : Fun K "_law_spoiled" "_law_spoiled" za1 ad0.f_law_spoiled ad0.d_law_spoiled
 B_law_spoiled : zbw K ad0.d_law_spoiled ["_law_words_here", "_law_way", "_law_draw"] []
 M_law_spoiled : mg "_law_spoiled" = some (.ref ad0.f_law_spoiled)
 F_law_refused : Fun K "_law_refused" "_law_refused" za2 ad0.f_law_refused ad0.d_law_refused
 B_law_refused : zbw K ad0.d_law_refused ["_law_row", "_law_number", "_law_whole_here"] []
 M_law_refused : mg "_law_refused" = some (.ref ad0.f_law_refused)
 F_law : Fun K "law" "law" zgi ad0.f_law ad0.d_law
 B_law : zbw K ad0.d_law ["_law_script"] []
 M_law : mg "law" = some (.ref ad0.f_law)
 z_ValueError : mg "ValueError" = none
 z_all : mg "all" = none
 z_bool : mg "bool" = none
 z_enumerate : mg "enumerate" = none
 z_int : mg "int" = none
 z_isinstance : mg "isinstance" = none
 z_len : mg "len" = none
 z_list : mg "list" = none
 z_max : mg "max" = none
 z_min : mg "min" = none
 z_range : mg "range" = none
 z_str : mg "str" = none
 z_zip : mg "zip" = none
section
variable {P : Program} {w : World} {K : PySem.W.Frag} {mg : Str -> Option Value} {base : Heap} {ad0 : Ad}
theorem zeb (Z : Tx K mg ad0) : FnOk P w K mg base CX0 1 ad0.f_NoRow_init ad0.d_NoRow_init ["self", "row"] (zi8 ad0.c_NoRow "row") := by
 refine Z.F_NoRow_init.ok zd7 (fun vs H Q E h => by obtain ⟨e, n, rfl, _⟩ := h; rfl) (fun cdv A outer s H vs Q E hr h => ⟨_, (zai (zfw (zgs (by rfl) Z.M_FolkError Z.CB_FolkError (zab (pv 0) (zab (zkj (pv 1)) zag))))
   (zao (zh5 (pv 0) (pv 1) (by rfl)))), ?_⟩)
 exact zib Z.XM_NoRow.cls Z.XS_NoRow_row (by decide +kernel) (by decide +kernel) h
noncomputable def figs : List Nat := [48, 49, 50, 51, 52, 53, 54, 55, 56, 57]
theorem zpq : ∀ c ∈ figs, c < 128 := by decide
theorem zpb : ∀ c ∈ figs, 48 <= c /\ c <= 57 := by decide
theorem zpu {c : Nat} (h : 48 <= c /\ c <= 57) : c ∈ figs := by
 have : ∀ k : Nat, k < 58 -> 48 <= k -> k ∈ figs := by decide
 exact this c (by lia) h.1
theorem zk0 {n : Nat} (h : n <= 1000000000) : (numL n).length <= 10 := zox (Nat.lt_of_le_of_lt h (by decide))
noncomputable def amB : List Nat -> Bool
 | [] => false
 | c :: r => (!decide (c = 48) && !decide (10 < (c :: r).length)) && ((c :: r).all (fun c => decide (c ∈ figs)) && decide (NumText.digitsVal (c :: r) <= 1000000000))
theorem zea (c : Nat) (r : List Nat) : amB (c :: r) = ((!decide (c = 48) && !decide (10 < (c :: r).length)) && ((c :: r).all (fun c => decide (c ∈ figs)) && decide (NumText.digitsVal (c :: r) <= 1000000000))) := rfl
noncomputable def preT (ds : List D) : Prop := ∃ l, ds = [.str l] /\ l.length <= 5000
noncomputable def zpy : List D -> D
 | [.str l] => .bl (amB l)
 | _ => .non
theorem mid {n : Nat} (h : n <= 10000) : n <= sizeLine := by rw [sizeLine_eq]; lia
theorem zh4 (Z : Tx K mg ad0) : FnOk P w K mg base CX0 1 ad0.f_is_amount ad0.d_is_amount ["word"] (SpD K preT zpy) := by
 refine Z.F_is_amount.ok zi9 (fun vs H Q E h => zca (n:=1) (by rintro ds ⟨n, rfl, _⟩; rfl) h) (fun cdv A outer s H vs Q E hr h => ⟨_, (zai (zdb (PW.pt (zj3 (zbc zcq (pv 0) zal (zba _)) (zj3 (zbc zcq (zdo zo1 (pv 0) zas (fun _ _ => rfl)) zal (zba _)) (zjl (zbc zsu (za8 zev (by rfl) Z.z_len boot_len (zab (pv 0) zag)) (za8 zev (by rfl) Z.z_len boot_len (zab (zd5 (show zco _ _ zow from zja) (by rfl) Z.z_str boot_str (zab (zcp (by rfl) Z.M_GREATEST Z.R_GREATEST) zag)) zag)) (zba _)))))) (zao (zbs zij)) zbt)
   (zao (zbs (znf (za8 (zn4 rfl) (by rfl) Z.z_all boot_all (zab (zqy rfl (LcOk.of (Nx:=(["word"] : List Str)) (sc:=zac zbd) (N':=(["sign"] : List Str)) (nt:=1) (cs:=[]) rfl rfl (by decide +kernel)) (zrx (pv 0)) (fun _ _ _ _ => (zdx (i:=0) (show List.Nodup (["sign"] : List Str) by decide +kernel) rfl (Or.inl rfl))) (fun _ _ _ _ => zkn) (fun _ _ _ _ => (zfl znq (pv 0) (zcp (by rfl) Z.M_FIGURES Z.R_FIGURES) (by with_unfolding_all rfl)))) zag)) (zk3 (zfl zsx (zd5 (show zco _ _ zn7 from ziu) (by rfl) Z.z_int boot_int (zab (pv 0) zag)) (zcp (by rfl) Z.M_GREATEST Z.R_GREATEST) (zba _))))))), ?_⟩)
 refine zg2 h (by rw [zca (n:=1) (by rintro ds ⟨n, rfl, _⟩; rfl) h]; decide) fun G ds hp rt => ?_
 obtain ⟨l, rfl, hl⟩ := hp
 have rt : RtD K G H Q (.bl (amB l)) := rt
 have g10 : (numL (1000000000 : Int).toNat).length = 10 := by decide +kernel
 cases l with
 | nil =>
  have rt : RtD K G H Q (.bl false) := rt
  exact zat (zb3 (b:=(decide (([] : List Nat) = []) || (false || false))) (zee (zax (zer (zad rfl).b (zaf (l:=[]) rfl (by simp)).b)) fun h => absurd h (by decide)) (fun _ => zbq zom rt) (fun hb => absurd hb (by decide)))
 | cons c r =>
  have hz : (c :: r).length <= sizeLine := mid (by lia)
  have hat : atI (c :: r) 0 = some c := zhz (xs:=c :: r) (j:=0) rfl
  refine zat (zb3 (b:=(decide (c :: r = []) || (decide ([c] = [48]) || decide (((numL (1000000000 : Int).toNat).length : Int) < ((c :: r).length : Int))))) (zee (zax (zer (zad rfl).b (zaf (l:=[]) rfl (by simp)).b)) fun _ => zee (zax (zer (zms (zad rfl).b zaq.b hz hat).b (zaf (l:=[48]) (by decide +kernel) (by decide)).b)) fun _ => zax (zs2 (znw (zad rfl).b hz).b (znw (znl zaq.b (by decide) (by decide)).b (by rw [g10]; decide)).b)) (fun hb => ?_) (fun hb => zaz ?_))
  ·have e : amB (c :: r) = false := by
    rw [decide_eq_false (by simp), Bool.false_or, g10, Bool.or_eq_true] at hb
    rw [zea]
    rcases hb with hb | hb
    ·have := of_decide_eq_true hb
     rw [decide_eq_true (by simpa using this)]; rfl
    ·have := of_decide_eq_true hb
     rw [decide_eq_true (show 10 < (c :: r).length by lia)]; simp
   rw [e] at rt
   exact zbq zom rt
  ((try dsimp only); refine zbj ?_)
  rw [decide_eq_false (by simp), Bool.false_or, g10, Bool.or_eq_false_iff] at hb
  have hc : ¬ c = 48 := fun z => of_decide_eq_false hb.1 (by rw [z])
  have hl10 : ¬ 10 < (c :: r).length := fun z => of_decide_eq_false hb.2 (by omega)
  have rt' : RtD K G H Q (.bl ((c :: r).all (fun c => decide (c ∈ figs)) && decide ((((NumText.digitsVal (c :: r) : Nat) : Int)) <= 1000000000))) := by
   have : amB (c :: r) = ((c :: r).all (fun c => decide (c ∈ figs)) && decide ((((NumText.digitsVal (c :: r) : Nat) : Int)) <= 1000000000)) := by
    rw [zea]
    rw [decide_eq_false hc, decide_eq_false hl10, Bool.not_false, Bool.and_true, Bool.true_and]
    congr 1
    exact decide_eq_decide.mpr ⟨fun h => by lia, fun h => by lia⟩
   rw [<- this]; exact rt
  exact zbq (zl2 (zpx (xs:=c :: r) (g:=fun c => decide (c ∈ figs)) (EvO.l (zl0 (c :: r) (fun c => .bl (decide (c ∈ figs))) (zad rfl).b (zdh (by decide)) (by decide) (by rw [sizeLine_eq]; omega) fun c hc => ⟨_, zce, zse (zad rfl).b (zaf (l:=figs) (by decide +kernel) zpq).b⟩))) fun ha => zso (zm6 (zad rfl).b (fun c hc => zpb c (of_decide_eq_true (List.all_eq_true.mp ha c hc))) (by simp) (by lia)).b zaq.b) rt'
theorem zrk {n : Nat} (h0 : 0 < n) (h : n <= 1000000000) : amB (numL n) = true := by
 obtain ⟨c, r, e, hc⟩ := znv n h0
 have hl := zk0 h
 have hd := zd0 n
 have hv := zkw n
 rw [e] at hl hd hv ⊢
 rw [zea]
 rw [decide_eq_false (by lia), decide_eq_false (by lia), hv, decide_eq_true h, List.all_eq_true.mpr fun c hc => decide_eq_true (zpu (hd c hc))]; rfl
theorem zr9 {l : List Nat} (h : amB l = true) : (∀ c ∈ l, 48 <= c /\ c <= 57) /\ l ≠ [] /\ l.length <= 10 := by
 cases l with
 | nil => cases h
 | cons c r =>
  rw [zea] at h
  rw [Bool.and_eq_true, Bool.and_eq_true, Bool.and_eq_true] at h
  refine ⟨fun c hc => zpb c (of_decide_eq_true (List.all_eq_true.mp h.2.1 c hc)), by simp, ?_⟩
  have := h.1.2
  rw [Bool.not_eq_true', decide_eq_false_iff_not] at this
  omega
noncomputable def fld (w : Int) (f : List Nat) : List (Str × V) := [("weight", .int w), ("field", .str (T f))]
noncomputable def nmL : List Nat := ("name" : Str).cps.toList
theorem zna : ∀ c ∈ nmL, c < 128 := by decide +kernel
theorem zqn : T nmL = "name" := by decide +kernel
theorem zi7 (Z : Tx K mg ad0) : FnOk P w K mg base CX0 1 ad0.f_Rule_init ad0.d_Rule_init ["self", "weight", "field"] (zen ad0.c_Same "weight" "field") := by
 refine Z.F_Rule_init.ok zb9 (fun vs H Q E h => by obtain ⟨x, dx, u, v, rfl, _⟩ := h; rfl) (fun cdv A outer s H vs Q E hr h => ⟨_, (zai (zdr (pv 0) (pv 1) (by rfl))
   (zao (zdr (pv 0) (pv 2) (by rfl)))), ?_⟩)
 obtain ⟨x, dx, u, v, rfl, hx, hd, q⟩ := h
 refine ⟨_, rfl, _, rfl, x, ad0.c_Same, dx, [], rfl, hx, Z.Cl_Same, Z.Na_Same_weight, by decide, ?_⟩
 refine ⟨_, rfl, _, rfl, x, ad0.c_Same, dx, [("weight", u)], rfl, zah, Z.Cl_Same, Z.Na_Same_field, (show 1 < 1000 by decide), ?_⟩
 rw [upd2]; exact q
theorem zia (Z : Tx K mg ad0) : FnOk P w K mg base CX0 1 ad0.f_Rule_init ad0.d_Rule_init ["self", "weight", "field"] (zen ad0.c_Like "weight" "field") := by
 refine Z.F_Rule_init.ok zb9 (fun vs H Q E h => by obtain ⟨x, dx, u, v, rfl, _⟩ := h; rfl) (fun cdv A outer s H vs Q E hr h => ⟨_, (zai (zdr (pv 0) (pv 1) (by rfl))
   (zao (zdr (pv 0) (pv 2) (by rfl)))), ?_⟩)
 obtain ⟨x, dx, u, v, rfl, hx, hd, q⟩ := h
 refine ⟨_, rfl, _, rfl, x, ad0.c_Like, dx, [], rfl, hx, Z.Cl_Like, Z.Na_Like_weight, by decide, ?_⟩
 refine ⟨_, rfl, _, rfl, x, ad0.c_Like, dx, [("weight", u)], rfl, zah, Z.Cl_Like, Z.Na_Like_field, (show 1 < 1000 by decide), ?_⟩
 rw [upd2]; exact q
theorem zit (Z : Tx K mg ad0) : FnOk P w K mg base CX0 1 ad0.f_Rule_init ad0.d_Rule_init ["self", "weight", "field"] (zen ad0.c_Near "weight" "field") := by
 refine Z.F_Rule_init.ok zb9 (fun vs H Q E h => by obtain ⟨x, dx, u, v, rfl, _⟩ := h; rfl) (fun cdv A outer s H vs Q E hr h => ⟨_, (zai (zdr (pv 0) (pv 1) (by rfl))
   (zao (zdr (pv 0) (pv 2) (by rfl)))), ?_⟩)
 obtain ⟨x, dx, u, v, rfl, hx, hd, q⟩ := h
 refine ⟨_, rfl, _, rfl, x, ad0.c_Near, dx, [], rfl, hx, Z.Cl_Near, Z.Na_Near_weight, by decide, ?_⟩
 refine ⟨_, rfl, _, rfl, x, ad0.c_Near, dx, [("weight", u)], rfl, zah, Z.Cl_Near, Z.Na_Near_field, (show 1 < 1000 by decide), ?_⟩
 rw [upd2]; exact q
theorem zg7 (Z : Tx K mg ad0) : FnOk P w K mg base CX0 1 ad0.f_Rule_init ad0.d_Rule_init ["self", "weight", "field"] (zen ad0.c_Other "weight" "field") := by
 refine Z.F_Rule_init.ok zb9 (fun vs H Q E h => by obtain ⟨x, dx, u, v, rfl, _⟩ := h; rfl) (fun cdv A outer s H vs Q E hr h => ⟨_, (zai (zdr (pv 0) (pv 1) (by rfl))
   (zao (zdr (pv 0) (pv 2) (by rfl)))), ?_⟩)
 obtain ⟨x, dx, u, v, rfl, hx, hd, q⟩ := h
 refine ⟨_, rfl, _, rfl, x, ad0.c_Other, dx, [], rfl, hx, Z.Cl_Other, Z.Na_Other_weight, by decide, ?_⟩
 refine ⟨_, rfl, _, rfl, x, ad0.c_Other, dx, [("weight", u)], rfl, zah, Z.Cl_Other, Z.Na_Other_field, (show 1 < 1000 by decide), ?_⟩
 rw [upd2]; exact q
theorem zi3 (Z : Tx K mg ad0) : FnOk P w K mg base CX0 1 ad0.f_Rule_init ad0.d_Rule_init ["self", "weight", "field"] (zen ad0.c_Former "weight" "field") := by
 refine Z.F_Rule_init.ok zb9 (fun vs H Q E h => by obtain ⟨x, dx, u, v, rfl, _⟩ := h; rfl) (fun cdv A outer s H vs Q E hr h => ⟨_, (zai (zdr (pv 0) (pv 1) (by rfl))
   (zao (zdr (pv 0) (pv 2) (by rfl)))), ?_⟩)
 obtain ⟨x, dx, u, v, rfl, hx, hd, q⟩ := h
 refine ⟨_, rfl, _, rfl, x, ad0.c_Former, dx, [], rfl, hx, Z.Cl_Former, Z.Na_Former_weight, by decide, ?_⟩
 refine ⟨_, rfl, _, rfl, x, ad0.c_Former, dx, [("weight", u)], rfl, zah, Z.Cl_Former, Z.Na_Former_field, (show 1 < 1000 by decide), ?_⟩
 rw [upd2]; exact q
theorem zf9 (Z : Tx K mg ad0) : FnOk P w K mg base CX0 2 ad0.f_Former_init ad0.d_Former_init ["self", "weight"] (zm7 ad0.c_Former "weight" "field" (.str (T nmL))) := by
 have G_Rule_init__Former := zi3 (P:=P) (w:=w) (base:=base) Z
 refine Z.F_Former_init.ok zgl (fun vs H Q E h => by obtain ⟨x, dx, u, rfl, _⟩ := h; rfl) (fun cdv A outer s H vs Q E hr h => ⟨_, (zao (zfw (zln (by rfl) Z.M_Rule Z.Ca_Rule_init G_Rule_init__Former (hr.mono (by decide)) Z.B_Rule_init .nil zcf (zab (pv 0) (zab (pv 1) (zab zal zag)))))), ?_⟩)
 obtain ⟨x, dx, u, rfl, hx, hd, q⟩ := h
 rw [zqn] at q
 exact ⟨_, rfl, _, rfl, x, dx, u, _, rfl, hx, hd, q⟩
noncomputable def zaw : Nat -> List Nat
 | 0 => ("same" : Str).cps.toList
 | 1 => ("like" : Str).cps.toList
 | 2 => ("near" : Str).cps.toList
 | 3 => ("other" : Str).cps.toList
 | _ => ("former" : Str).cps.toList
noncomputable abbrev Rl := Nat × List Nat × Int
noncomputable def cOf (c1 c2 c3 c4 c5 : Addr) : Nat -> Addr
 | 0 => c1 | 1 => c2 | 2 => c3 | 3 => c4 | _ => c5
noncomputable def fEf (r : Rl) : List Nat := if r.1 < 4 then r.2.1 else nmL
noncomputable def insR (c1 c2 c3 c4 c5 : Addr) (r : Rl) : D := .ins (cOf c1 c2 c3 c4 c5 r.1) ["weight", "field"] [.int r.2.2, .str (fEf r)]
theorem zrj (Z : Tx K mg ad0) (s : Nat) : Cls K (cOf ad0.c_Same ad0.c_Like ad0.c_Near ad0.c_Other ad0.c_Former s) /\ zbu K (cOf ad0.c_Same ad0.c_Like ad0.c_Near ad0.c_Other ad0.c_Former s) "weight" /\ zbu K (cOf ad0.c_Same ad0.c_Like ad0.c_Near ad0.c_Other ad0.c_Former s) "field" := by
 match s with
 | 0 => exact ⟨Z.Cl_Same, Z.Na_Same_weight, Z.Na_Same_field⟩
 | 1 => exact ⟨Z.Cl_Like, Z.Na_Like_weight, Z.Na_Like_field⟩
 | 2 => exact ⟨Z.Cl_Near, Z.Na_Near_weight, Z.Na_Near_field⟩
 | 3 => exact ⟨Z.Cl_Other, Z.Na_Other_weight, Z.Na_Other_field⟩
 | _ + 4 => exact ⟨Z.Cl_Former, Z.Na_Former_weight, Z.Na_Former_field⟩
theorem zio (Z : Tx K mg ad0) : FnOk P w K mg base CX0 1 ad0.f_law_whole ad0.d_law_whole ["_law_found"] (SpD K (fun ds => ∃ c : Int, ds = [.int c]) fun _ => .bl true) := by
 refine Z.F_law_whole.ok zis (fun vs H Q E h => zca (n:=1) (by rintro ds ⟨c, rfl⟩; rfl) h) (fun cdv A outer s H vs Q E hr h => ⟨_, (zao (zbs (znf (za8 ze0 (by rfl) Z.z_isinstance boot_isinstance (zab (pv 0) (zab (zj6 (v:=.ty "int") (by rfl) Z.z_int boot_int rfl) zag))) (zk3 (zq8 (za8 zek (by rfl) Z.z_isinstance boot_isinstance (zab (pv 0) (zab (zj6 (v:=.ty "bool") (by rfl) Z.z_bool boot_bool rfl) zag)))))))), ?_⟩)
 refine zg2 h (by rw [zca (n:=1) (by rintro ds ⟨c, rfl⟩; rfl) h]; decide) fun G ds hp rt => ?_
 obtain ⟨c, rfl⟩ := hp
 exact zbq (zl2 (zq2 (zad rfl).b) fun _ => zrm (zp3 (zad rfl).b)) rt
noncomputable def ruOk (r : Rl) : Prop := r.1 < 5 /\ (∀ c ∈ r.2.1, c < 128) /\ (r.1 = 4 -> r.2.1 = nmL)
theorem zif : ∀ n : Nat, n < 5 -> ∀ c ∈ zaw n, c < 128 := by decide +kernel
theorem zeo {G H₀ L : Hp} {ss : List Sl} {te : TE} {d d' : D} (a : Ev K G H₀ L ss te d) (h : d = d') : Ev K G H₀ L ss te d' := h ▸ a
theorem small {n : Nat} (h : n <= 1000) : n <= sizeLine := by rw [sizeLine_eq]; lia
noncomputable def flds : List (List Nat) := [[110, 97, 109, 101], [102, 111, 114, 109, 101, 114], [119, 97, 121], [100, 97, 121], [109, 97, 114, 107]]
noncomputable def forL : List Nat := ("for" : Str).cps.toList
noncomputable def agL : List Nat := ("against" : Str).cps.toList
noncomputable def wayL (w : Int) : List Nat := if w < 0 then agL else forL
noncomputable def rowW (r : Rl) : List (List Nat) := [wayL r.2.2, numL r.2.2.natAbs, r.2.1, zaw r.1]
noncomputable def rowL (r : Rl) : List Nat := glue [32] (rowW r)
theorem zn1 {f : List Nat} {ls : List (List Nat)} : decide (D.str f ∈ ls.map D.str) = decide (f ∈ ls) := by
 congr 1
 rw [List.mem_map]
 apply propext
 exact ⟨fun ⟨g, hg, e⟩ => by injection e with e; rw [<- e]; exact hg, fun h => ⟨f, h, rfl⟩⟩
theorem zjs : ∀ f ∈ flds, 32 ∉ f /\ 10 ∉ f /\ f.length <= 6 := by decide +kernel
theorem zhl : ∀ n : Nat, n < 5 -> 32 ∉ zaw n /\ 10 ∉ zaw n /\ (zaw n).length <= 6 := by decide +kernel
theorem zk7 (w : Int) : 32 ∉ wayL w /\ 10 ∉ wayL w /\ (wayL w).length <= 7 /\ (∀ c ∈ wayL w, c < 128) := by
 unfold wayL
 split <;> decide +kernel
noncomputable def RuOk (r : Rl) : Prop := ruOk r /\ r.2.1 ∈ flds /\ r.2.2 ≠ 0 /\ r.2.2.natAbs <= 1000000000
theorem zie (n : Nat) (z : Nat) (hz : z < 48) : z ∉ numL n := fun h => by have := (zd0 n z h).1; lia
theorem zmr {r : Rl} (h : RuOk r) : splitL 32 (rowL r) = rowW r := by
 obtain ⟨⟨h5, _⟩, hf, _⟩ := h
 unfold splitL rowL
 refine zdm (by unfold rowW; simp) (fun p hp => ?_) ?_
 ·unfold rowW at hp
  simp only [List.mem_cons, List.not_mem_nil, or_false] at hp
  rcases hp with rfl | rfl | rfl | rfl
  ·exact (zk7 _).1
  ·exact zie _ 32 (by decide)
  ·exact (zjs _ hf).1
  ·exact (zhl _ h5).1
 ·show 4 <= _
  have : (glue [32] (rowW r)).length ≥ 3 := by
   unfold rowW
   simp [glue]
   lia
  lia
theorem zka {r : Rl} (h : RuOk r) : (rowL r).length <= 40 := by
 obtain ⟨⟨h5, _⟩, hf, _, hn⟩ := h
 have a := (zk7 r.2.2).2.2.1
 have b := zk0 hn
 have c := (zjs _ hf).2.2
 have d := (zhl _ h5).2.2
 unfold rowL rowW
 simp [glue]
 lia
noncomputable def zcr (l : List Nat) : Bool := decide (zcm [32].contains l = []) || decide (l.head? = some 35)
noncomputable def preL (ds : List D) : Prop := ∃ l, ds = [.str l] /\ l.length <= 1000000
noncomputable def zmz : List D -> D
 | [.str l] => .bl (zcr l)
 | _ => .non
theorem zfe (Z : Tx K mg ad0) : FnOk P w K mg base CX0 1 ad0.f_is_passed_by ad0.d_is_passed_by ["row"] (SpD K preL zmz) := by
 refine Z.F_is_passed_by.ok zfz (fun vs H Q E h => zca (n:=1) (by rintro ds ⟨c, rfl, _⟩; rfl) h) (fun cdv A outer s H vs Q E hr h => ⟨_, (zao (zbs (zsn (zfl zcq (ze2 F.plainAttrs_str F.slot_str_strip F.type_str_strip zji (pv 0) (zab zal zag)) zal (zba _)) (zk3 (ze2 F.plainAttrs_str F.slot_str_startswith F.type_str_startswith (show MtR _ _ zju from zhk) (pv 0) (zab zal zag)))))), ?_⟩)
 refine zg2 h (by rw [zca (n:=1) (by rintro ds ⟨c, rfl, _⟩; rfl) h]; decide) fun G ds hp rt => ?_
 obtain ⟨l, rfl, hl⟩ := hp
 have rt : RtD K G H Q (.bl (zcr l)) := rt
 exact zbq (zs0 (zer (zfa (zad rfl).b (zaf (l:=[32]) (by decide +kernel) (by decide)).b (by rw [sizeLine_eq]; lia)).b (zaf (l:=[]) (by decide +kernel) (by decide)).b) fun _ => zmt (zad rfl).b (zaf (l:=[35]) (by decide +kernel) (by decide)).b) rt
noncomputable def lnAt (l : List Nat) (i : Nat) : List Nat := (splitL 10 l).getD i []
noncomputable def zcg (l : List Nat) : List Nat := (List.range (splitL 10 l).length).filter fun i => !zcr (lnAt l i)
noncomputable def numD (l : List Nat) (i : Nat) : D := .tup [.int ((i + 1 : Nat) : Int), .str (lnAt l i)]
noncomputable def zh3 : List D -> List D
 | [.str l] => (zcg l).map (numD l)
 | _ => []
theorem zcb {z : Nat} : ∀ {n : Nat} {l p : List Nat}, p ∈ zbh z n l -> p.length <= l.length
 | 0, l, p, h => by rw [zbh, List.mem_singleton] at h; subst h; exact Nat.le_refl _
 | n + 1, l, p, h => by
  rcases zct (z:=z) l with ⟨h1, h2⟩ | ⟨b, h1, h2, h3⟩
  ·rw [zbh, h1] at h
   have h : p ∈ [l] := h
   rw [List.mem_singleton] at h; subst h; exact Nat.le_refl _
  ·rw [zbh, h1] at h
   have h : p ∈ l.takeWhile (· != z) :: zbh z n b := h
   have hl := congrArg List.length h2
   rw [List.length_append, List.length_cons] at hl
   rcases List.mem_cons.mp h with h | h
   ·subst h; lia
   ·have := zcb h; lia
theorem zjj (Z : Tx K mg ad0) : FnOk P w K mg base CX0 2 ad0.f_told_rows ad0.d_told_rows ["text"] (SpO K preL zh3) := by
 have G_is_passed_by := zfe (P:=P) (w:=w) (base:=base) Z
 refine Z.F_told_rows.ok zes (fun vs H Q E h => zm4 (n:=1) (by rintro ds ⟨c, rfl, _⟩; rfl) h) (fun cdv A outer s H vs Q E hr h => ⟨_, (zai (zb2 (i:=1) zes.nd rfl (Or.inl rfl) (ze2 F.plainAttrs_str F.slot_str_split F.type_str_split zk8 (pv 0) (zab zal zag)))
   (zao (zbs (zqy rfl (LcOk.of (Nx:=(["text", "rows"] : List Str)) (sc:=zac zbe) (N':=(["number", "row"] : List Str)) (nt:=2) (cs:=[]) rfl rfl (by decide +kernel)) (zoo (by rfl) Z.z_enumerate (zab (pv 1) zag) zas) (fun _ _ _ _ => (show PG _ _ (gTup K 2 _) from zo2 rfl (ze7 (zdx (i:=0) (show List.Nodup (["number", "row"] : List Str) by decide +kernel) rfl (Or.inl rfl)) (ze7 (zdx (i:=1) (show List.Nodup (["number", "row"] : List Str) by decide +kernel) rfl (Or.inl rfl)) zmm)))) (fun _ _ _ _ => (zkv (zg0 (zds (zbv G_is_passed_by (hr.mono (by decide)) (by rfl) Z.M_is_passed_by Z.F_is_passed_by.kp Z.B_is_passed_by .nil zcf (zab (pv 1) zag)))))) (fun _ _ _ _ => (zo9 (zab (pv 0) (zab (pv 1) zag)))))))), ?_⟩)
 refine zq1 h (by rw [zm4 (n:=1) (by rintro ds ⟨c, rfl, _⟩; rfl) h]; decide) fun G ds hp rt => ?_
 obtain ⟨l, rfl, hl⟩ := hp
 refine zat (zej (zgz (zad rfl).b (zaf (l:=[10]) (by decide +kernel) (by decide)).b (by rw [sizeLine_eq]; lia)) fun p => zcd (i:=1) rfl ?_)
 ((try dsimp only); refine zbj ?_)
 have hsl : (splitL 10 l).length <= l.length + 2 := zcl 10 _ l
 refine zm9 (ds:=(zcg l).map (numD l)) ?_ rt
 have hn : ((splitL 10 l).map D.str).length = (splitL 10 l).length := List.length_map ..
 unfold zcg
 rw [<- hn]
 refine zg9 (fun i => !zcr (lnAt l i)) (numD l) (zmx (ds:=(splitL 10 l).map D.str) (zad rfl)) (znm (zdl (zdh (by decide)) (zdl (zdh (by decide)) zjp))) (by decide) (by rw [List.length_map, sizeLine_eq]; lia) fun i hi => ?_
 rw [List.length_map] at hi
 have eg : ((splitL 10 l).map D.str).getD i .non = .str (lnAt l i) := by
  unfold lnAt
  rw [List.getD_eq_getElem?_getD, List.getD_eq_getElem?_getD, List.getElem?_map, List.getElem?_eq_getElem hi]; rfl
 have hm : lnAt l i ∈ splitL 10 l := by
  unfold lnAt
  rw [List.getD_eq_getElem?_getD, List.getElem?_eq_getElem hi]; exact List.getElem_mem _
 rw [eg]
 exact ⟨_, zkf rfl (zci zce (zci zce zho)), zel (zgc (zdz (pre:=preL) (res:=zmz) (zaa (zad rfl) zae) ⟨_, rfl, by have := zcb hm; lia⟩)), fun _ => zo6 (zaa (zad rfl) (zaa (zad rfl) zae)) (small (by simp))⟩
theorem zge (Z : Tx K mg ad0) : FnOkH P w K mg base CX0 1 ad0.f_NoRow_init ad0.d_NoRow_init ["self", "row"] (zi8 ad0.c_NoRow "row") := by
 refine Z.F_NoRow_init.okH zd7 (fun vs H Q E h => by obtain ⟨e, n, rfl, _⟩ := h; rfl) (fun cdv A outer s H vs Q E hr h => ⟨_, (zai (zfw (zgs (by rfl) Z.M_FolkError Z.CB_FolkError (zab (pv 0) (zab (zkj (pv 1)) zag))))
   (zao (zh5 (pv 0) (pv 1) (by rfl)))), ?_⟩)
 exact zib Z.XM_NoRow.cls Z.XS_NoRow_row (by decide +kernel) (by decide +kernel) h
noncomputable def mkR (w : Int) (f s : List Nat) : Option Rl := if s = zaw 0 then some (0, f, w) else if s = zaw 1 then some (1, f, w) else if s = zaw 2 then some (2, f, w) else if s = zaw 3 then some (3, f, w) else if s = zaw 4 /\ f = nmL then some (4, f, w) else none
theorem zq4 (w : Int) (f : List Nat) : mkR w f (zaw 0) = some (0, f, w) /\ mkR w f (zaw 1) = some (1, f, w) /\ mkR w f (zaw 2) = some (2, f, w) /\ mkR w f (zaw 3) = some (3, f, w) := by
 refine ⟨?_, ?_, ?_, ?_⟩ <;> unfold mkR
 ·rw [if_pos rfl]
 ·rw [if_neg (by decide +kernel), if_pos rfl]
 ·rw [if_neg (by decide +kernel), if_neg (by decide +kernel), if_pos rfl]
 ·rw [if_neg (by decide +kernel), if_neg (by decide +kernel), if_neg (by decide +kernel), if_pos rfl]
noncomputable def zqo (ds : List D) : Prop := ∃ (w : Int) (f s : List Nat), ds = [.int w, .str f, .str s]
noncomputable def zpl (ds : List D) : Prop := ∃ (w : Int) (f s : List Nat), ds = [.int w, .str f, .str s] /\ mkR w f s = none
noncomputable def optR (c1 c2 c3 c4 c5 : Addr) : Option Rl -> D
 | some r => insR c1 c2 c3 c4 c5 r
 | none => .non
noncomputable def zqp (c1 c2 c3 c4 c5 : Addr) : List D -> D
 | [.int w, .str f, .str s] => optR c1 c2 c3 c4 c5 (mkR w f s)
 | _ => .non
theorem zh6 (Z : Tx K mg ad0) : FnOk P w K mg base (CXB true P w) 4 ad0.f_made_rule ad0.d_made_rule ["weight", "field", "word"] (SpX K ad0.c_NoRow "row" zqo zpl (zqp ad0.c_Same ad0.c_Like ad0.c_Near ad0.c_Other ad0.c_Former) fun _ => .int 1) := by
 have G_Rule_init__Same := zi7 (P:=P) (w:=w) (base:=base) Z
 have G_Rule_init__Like := zia (P:=P) (w:=w) (base:=base) Z
 have G_Rule_init__Near := zit (P:=P) (w:=w) (base:=base) Z
 have G_Rule_init__Other := zg7 (P:=P) (w:=w) (base:=base) Z
 have G_Former_init__Former := zf9 (P:=P) (w:=w) (base:=base) Z
 have G_NoRow_init := zeb (P:=P) (w:=w) (base:=base) Z
 refine Z.F_made_rule.okX2 ziv (fun vs H Q E h => zdi (n:=3) (by rintro ds ⟨a, b, c, rfl⟩; rfl) h) (fun cdv A outer s H vs Q E hr h => ⟨_, (zai (zf0 (zdb (zbc zcq (pv 2) zal (zba _)) (zao (zbs (zf4 Z.Mk_Same G_Rule_init__Same (hr.mono (by decide)) (by rfl) Z.M_Same Z.B_Rule_init .nil zcf (zab (pv 0) (zab (pv 1) zag))))) zbt))
   (zai (zf0 (zdb (zbc zcq (pv 2) zal (zba _)) (zao (zbs (zf4 Z.Mk_Like G_Rule_init__Like (hr.mono (by decide)) (by rfl) Z.M_Like Z.B_Rule_init .nil zcf (zab (pv 0) (zab (pv 1) zag))))) zbt))
   (zai (zf0 (zdb (zbc zcq (pv 2) zal (zba _)) (zao (zbs (zf4 Z.Mk_Near G_Rule_init__Near (hr.mono (by decide)) (by rfl) Z.M_Near Z.B_Rule_init .nil zcf (zab (pv 0) (zab (pv 1) zag))))) zbt))
   (zai (zf0 (zdb (zbc zcq (pv 2) zal (zba _)) (zao (zbs (zf4 Z.Mk_Other G_Rule_init__Other (hr.mono (by decide)) (by rfl) Z.M_Other Z.B_Rule_init .nil zcf (zab (pv 0) (zab (pv 1) zag))))) zbt))
   (zai (zf0 (zdb (PW.pt (znr (zbc zcq (pv 2) zal (zba _)) (znp (zbc zcq (pv 1) zal (zba _))))) (zao (zbs (zf4 Z.Mk_Former G_Former_init__Former (hr.mono (by decide)) (by rfl) Z.M_Former Z.B_Former_init .nil zcf (zab (pv 0) zag)))) zbt))
   (zao (zfn (zfj Z.XM_NoRow G_NoRow_init (hr.mono (by decide)) (by rfl) Z.M_NoRow Z.B_NoRow_init zcf (zab (PE.nox zas) zag) (by decide))))))))), ?_⟩)
 refine zkt h (by rw [zdi (n:=3) (by rintro ds ⟨a, b, c, rfl⟩; rfl) h]; decide) fun G ds hp rt rx => ?_
 obtain ⟨wt, f, s, rfl⟩ := hp
 obtain ⟨m0, m1, m2, m3⟩ := zq4 wt f
 have good : ∀ r, mkR wt f s = some r -> RtD K G H Q (insR ad0.c_Same ad0.c_Like ad0.c_Near ad0.c_Other ad0.c_Former r) := fun r e => by
  have := rt (by rintro ⟨a, b, c, e1, e2⟩; cases e1; rw [e] at e2; cases e2)
  have e2 : zqp ad0.c_Same ad0.c_Like ad0.c_Near ad0.c_Other ad0.c_Former [.int wt, .str f, .str s] = insR ad0.c_Same ad0.c_Like ad0.c_Near ad0.c_Other ad0.c_Former r := by show optR _ _ _ _ _ (mkR wt f s) = _; rw [e]; rfl
  rw [e2] at this; exact this
 have two : ∀ {L0 : Hp} {ss : List Sl}, ss[0]? = some (.d (.int wt)) -> ss[1]? = some (.d (.str f)) -> EvAF K G H L0 ss (zbf (tVar 0) (zbf (tVar 1) tNil)) [.int wt, .str f] := fun e1 e2 => zaa (zad e1) (zaa (zad e2) zae)
 have wd : ∀ {L0 : Hp} {ss : List Sl} (m : Nat) (x : Str), m < 5 -> x = T (zaw m) -> ss[2]? = some (.d (.str s)) -> EvT K G H L0 ss (zlk (tOp rEq (tVar 2) (tC (.str x)))) (decide (s = zaw m)) := fun m x hm hx e => zax (zer (zad e).b (zaf hx (zif m hm)).b)
 refine zat (zb3 (wd 0 _ (by decide) (by decide +kernel) rfl) (fun hb => ?_) (fun hb0 => zaz ?_))
 ·cases of_decide_eq_true hb
  exact zbq (zfc (two rfl rfl)) (good (0, f, wt) m0)
 ((try dsimp only); refine zbj ?_)
 refine zat (zb3 (wd 1 _ (by decide) (by decide +kernel) rfl) (fun hb => ?_) (fun hb1 => zaz ?_))
 ·cases of_decide_eq_true hb
  exact zbq (zfc (two rfl rfl)) (good (1, f, wt) m1)
 ((try dsimp only); refine zbj ?_)
 refine zat (zb3 (wd 2 _ (by decide) (by decide +kernel) rfl) (fun hb => ?_) (fun hb2 => zaz ?_))
 ·cases of_decide_eq_true hb
  exact zbq (zfc (two rfl rfl)) (good (2, f, wt) m2)
 ((try dsimp only); refine zbj ?_)
 refine zat (zb3 (wd 3 _ (by decide) (by decide +kernel) rfl) (fun hb => ?_) (fun hb3 => zaz ?_))
 ·cases of_decide_eq_true hb
  exact zbq (zfc (two rfl rfl)) (good (3, f, wt) m3)
 ((try dsimp only); refine zbj ?_)
 have em : mkR wt f s = if s = zaw 4 /\ f = nmL then some (4, f, wt) else none := by
  unfold mkR
  rw [if_neg (of_decide_eq_false hb0), if_neg (of_decide_eq_false hb1), if_neg (of_decide_eq_false hb2), if_neg (of_decide_eq_false hb3)]
 refine zat (zb3 (b:=(decide (s = zaw 4) && decide (f = nmL))) (zep (wd 4 _ (by decide) (by decide +kernel) rfl) fun _ => zax (zer (zad rfl).b (zaf zqn.symm zna).b)) (fun hb => ?_) (fun hb => zaz ?_))
 ·rw [Bool.and_eq_true] at hb
  have h1 := of_decide_eq_true hb.1
  have h2 := of_decide_eq_true hb.2
  rw [if_pos ⟨h1, h2⟩] at em
  have := good _ em
  subst h2
  exact zbq (zog zna (zaa (zad rfl) zae)) this
 ((try dsimp only); refine zbj ?_)
 refine zde Z.XM_NoRow.cls (zaa zaq zae) (by decide) (by decide) (rx ⟨wt, f, s, rfl, ?_⟩)
 rw [em, if_neg]
 rintro ⟨h1, h2⟩
 rw [h1, h2, decide_eq_true rfl, decide_eq_true rfl] at hb
 cases hb
noncomputable def prsW : List (List Nat) -> Option Rl
 | [a, n, f, s] => if (a = forL \/ a = agL) /\ amB n = true /\ f ∈ flds then mkR (if a = forL then ((NumText.digitsVal n : Nat) : Int) else -((NumText.digitsVal n : Nat) : Int)) f s else none
 | _ => none
noncomputable def prs (l : List Nat) : Option Rl := prsW (splitL 32 l)
noncomputable def znd (ds : List D) : Prop := ∃ l, ds = [.str l] /\ prs l = none
noncomputable def zma (c1 c2 c3 c4 c5 : Addr) : List D -> D
 | [.str l] => optR c1 c2 c3 c4 c5 (prs l)
 | _ => .non
theorem zou : ∀ {ws : List (List Nat)}, ws.length ≠ 4 -> prsW ws = none
 | [], _ => rfl
 | [_], _ => rfl
 | [_, _], _ => rfl
 | [_, _, _], _ => rfl
 | [_, _, _, _], h => absurd rfl h
 | _ :: _ :: _ :: _ :: _ :: _, _ => rfl
theorem len4 : ∀ {ws : List (List Nat)}, ws.length = 4 -> ∃ a n f s, ws = [a, n, f, s]
 | [a, n, f, s], _ => ⟨a, n, f, s, rfl⟩
 | [], h => by cases h
 | [_], h => by cases h
 | [_, _], h => by cases h
 | [_, _, _], h => by cases h
 | _ :: _ :: _ :: _ :: _ :: _, h => by simp at h
theorem zdk (Z : Tx K mg ad0) : FnOk P w K mg base (CXB true P w) 5 ad0.f_read_rule ad0.d_read_rule ["row"] (SpX K ad0.c_NoRow "row" preT znd (zma ad0.c_Same ad0.c_Like ad0.c_Near ad0.c_Other ad0.c_Former) fun _ => .int 1) := by
 have G_is_amount : FnOk P w K mg base CX0 4 ad0.f_is_amount ad0.d_is_amount ["word"] (SpD K preT zpy) := (zh4 Z).mono (by decide)
 have G_made_rule := zh6 (P:=P) (w:=w) (base:=base) Z
 have G_NoRow_init := zeb (P:=P) (w:=w) (base:=base) Z
 refine Z.F_read_rule.okX2 zc7 (fun vs H Q E h => zdi (n:=1) (by rintro ds ⟨l, rfl, _⟩; rfl) h) (fun cdv A outer s H vs Q E hr h => ⟨_, (zai (zf0 (zb2 (i:=1) zc7.nd rfl (Or.inl rfl) (ze2 F.plainAttrs_str F.slot_str_split F.type_str_split zk8 (pv 0) (zab zal zag))))
   (zai (zdb (PT.nox (PW.pt (zj3 (zbc zmu (za8 zby (by rfl) Z.z_len boot_len (zab (pv 1) zag)) zas (zba _)) (zjl (zbc (show OpR _ _ (rInD K true) from zjh hr.units) (zdo (show IxR _ (rIxL K) from za6) (pv 1) zas (fun _ _ => rfl)) (zo9 (zab zal (zab zal zag))) (by with_unfolding_all rfl)))))) (zao (zfn (zfj Z.XM_NoRow G_NoRow_init (hr.mono (by decide)) (by rfl) Z.M_NoRow Z.B_NoRow_init zcf (zab (PE.nox zas) zag) (by decide)))) zbt)
   (zai (zdb (PT.nox (PW.pt (zj3 (zg0 (zds (zbv G_is_amount (hr.mono (by decide)) (by rfl) Z.M_is_amount Z.F_is_amount.kp Z.B_is_amount .nil zcf (zab (zdo (show IxR _ (rIxL K) from za6) (pv 1) zas (fun _ _ => rfl)) zag)))) (zjl (zbc (show OpR _ _ (rInD K true) from zjh hr.units) (zdo (show IxR _ (rIxL K) from za6) (pv 1) zas (fun _ _ => rfl)) (zcp (v:=.ref ad0.k_FIELDS) (by rfl) Z.M_FIELDS rfl) (by with_unfolding_all rfl)))))) (zao (zfn (zfj Z.XM_NoRow G_NoRow_init (hr.mono (by decide)) (by rfl) Z.M_NoRow Z.B_NoRow_init zcf (zab (PE.nox zas) zag) (by decide)))) zbt)
   (zai (zf0 (zb2 (i:=2) zc7.nd rfl (Or.inl rfl) (zd5 (show zco _ _ zn7 from ziu) (by rfl) Z.z_int boot_int (zab (zdo (show IxR _ (rIxL K) from za6) (pv 1) zas (fun _ _ => rfl)) zag))))
   (zao (zbs (zbv G_made_rule (hr.mono (by decide)) (by rfl) Z.M_made_rule Z.F_made_rule.kp Z.B_made_rule .nil zs1 (zab (PE.nox (zo0 (zbc zcq (zdo (show IxR _ (rIxL K) from za6) (pv 1) zas (fun _ _ => rfl)) zal (zba _)) (pv 2) (zrd zo4 (pv 2)))) (zab (PE.nox (zdo (show IxR _ (rIxL K) from za6) (pv 1) zas (fun _ _ => rfl))) (zab (PE.nox (zdo (show IxR _ (rIxL K) from za6) (pv 1) zas (fun _ _ => rfl))) zag)))))))))), ?_⟩)
 refine zkt h (by rw [zdi (n:=1) (by rintro ds ⟨l, rfl, _⟩; rfl) h]; decide) fun G ds hp rt rx => ?_
 obtain ⟨l, rfl, hl⟩ := hp
 have hml : ∀ p ∈ splitL 32 l, p.length <= 5000 := fun p hp => by have := zcb hp; lia
 have hsl : (splitL 32 l).length <= l.length + 2 := zcl 32 _ l
 have rt : prs l ≠ none -> RtD K G H Q (optR ad0.c_Same ad0.c_Like ad0.c_Near ad0.c_Other ad0.c_Former (prs l)) := fun h => rt (by rintro ⟨m, e1, e2⟩; cases e1; exact h e2)
 have rx : prs l = none -> RtX2 K G H E ad0.c_NoRow "row" (.int 1) := fun h => rx ⟨l, rfl, h⟩
 unfold prs at rt rx
 refine zat (zej (ds:=(splitL 32 l).map D.str) (zgz (zad rfl).b (zaf (l:=[32]) (by decide +kernel) (by decide)).b (by rw [sizeLine_eq]; lia)) fun p => zcd (i:=1) rfl ?_)
 ((try dsimp only); refine zbj ?_)
 generalize splitL 32 l = ws at rt rx hml hsl
 by_cases h4 : ws.length = 4
 rotate_left
 ·refine zat (zb3 (b:=(!decide (((ws.map D.str).length : Int) = 4) || false)) (zee (zax (zpc (zd2 (zad rfl).l).b zaq.b)) fun h => ?_) (fun _ => ?_) (fun hb => ?_))
  ·exfalso
   rw [List.length_map, decide_eq_false (by lia)] at h; cases h
  ·exact zde Z.XM_NoRow.cls (zaa zaq zae) (by decide) (by decide) (rx (zou h4))
  ·rw [List.length_map, decide_eq_false (by lia)] at hb; cases hb
 obtain ⟨a, n, f, s', rfl⟩ := len4 h4
 have hml := fun p hp => hml p hp
 have ix : ∀ {L0 : Hp} {ss : List Sl} (j : Int) (m : List Nat), ss[1]? = some (.d (.lst ([a, n, f, s'].map D.str))) -> atI ([a, n, f, s'].map D.str) j = some (.str m) -> Ev K G H L0 ss (tOp (rIxL K) (tVar 1) (tC (.int j))) (.str m) := fun j m e h => zck (zad e).l zaq.b h
 refine zat (zb3 (b:=(!decide ((([a, n, f, s'].map D.str).length : Int) = 4) || !decide (D.str a ∈ [D.str forL, D.str agL]))) (zee (zax (zpc (zd2 (zad rfl).l).b zaq.b)) fun _ => zax (zic (ix 0 _ rfl rfl).b (zo6 (zaa (zaf (l:=forL) (by decide +kernel) (by decide +kernel)) (zaa (zaf (l:=agL) (by decide +kernel) (by decide +kernel)) zae)) (small (by simp))).b rfl rfl (by simp [D.dep]))) (fun hb => ?_) (fun hb => zaz ?_))
 ·refine zde Z.XM_NoRow.cls (zaa zaq zae) (by decide) (by decide) (rx ?_)
  have e1 : decide ((([a, n, f, s'].map D.str).length : Int) = 4) = true := decide_eq_true rfl
  rw [e1, Bool.not_true, Bool.false_or, Bool.not_eq_true', decide_eq_false_iff_not] at hb
  show (if _ then _ else _) = _
  rw [if_neg]
  rintro ⟨h1, _⟩
  exact hb (by rcases h1 with h | h <;> rw [h] <;> simp)
 ((try dsimp only); refine zbj ?_)
 have ha : a = forL \/ a = agL := by
  rw [Bool.or_eq_false_iff] at hb
  have h := hb.2
  rw [Bool.not_eq_false', decide_eq_true_iff] at h
  rcases List.mem_cons.mp h with h | h
  ·injection h with h; exact .inl h
  ·injection (List.mem_singleton.mp h) with h; exact .inr h
 refine zat (zb3 (b:=(!amB n || !decide (f ∈ flds))) (zee (zel (zgc (zdz (pre:=preT) (res:=zpy) (zaa (ix 1 _ rfl rfl) zae) ⟨_, rfl, hml n (by simp)⟩))) fun _ => zax (by
  rw [<- zn1]
  exact zic (ix 2 _ rfl rfl).b (zol Z.K_FIELDS).b rfl (D.nbs_map (fun _ => rfl) flds) (by simp [D.dep]))) (fun hb => ?_) (fun hb => zaz ?_))
 ·refine zde Z.XM_NoRow.cls (zaa zaq zae) (by decide) (by decide) (rx ?_)
  show (if _ then _ else _) = _
  rw [if_neg]
  rintro ⟨_, h1, h2⟩
  rw [h1, decide_eq_true h2] at hb
  cases hb
 ((try dsimp only); refine zbj ?_)
 rw [Bool.or_eq_false_iff, Bool.not_eq_false', Bool.not_eq_false', decide_eq_true_iff] at hb
 obtain ⟨hn, hf⟩ := hb
 obtain ⟨v1, v2, v3⟩ := zr9 hn
 have ep : prsW [a, n, f, s'] = mkR (if a = forL then ((NumText.digitsVal n : Nat) : Int) else -((NumText.digitsVal n : Nat) : Int)) f s' := if_pos ⟨ha, hn, hf⟩
 rw [ep] at rt rx
 refine zat (zdq (d:=.int ((NumText.digitsVal n : Nat) : Int)) (zm6 (ix 1 _ rfl rfl).b v1 v2 (by lia)) ?_)
 ((try dsimp only); refine zbj ?_)
 generalize hwt : (if a = forL then ((NumText.digitsVal n : Nat) : Int) else -((NumText.digitsVal n : Nat) : Int)) = wt at rt rx
 have args : ∀ {L0 : Hp} {ss : List Sl}, ss[1]? = some (.d (.lst ([a, n, f, s'].map D.str))) -> ss[2]? = some (.d (.int ((NumText.digitsVal n : Nat) : Int))) -> EvAF K G H L0 ss (zbf (tIf (zlk (tOp rEq (tOp (rIxL K) (tVar 1) (tC (.int 0))) (tC (.str "for")))) (tVar 2) (tUn (rU fun i => .int (-i)) (tVar 2))) (zbf (tOp (rIxL K) (tVar 1) (tC (.int 2))) (zbf (tOp (rIxL K) (tVar 1) (tC (.int 3))) tNil))) [.int wt, .str f, .str s'] := fun e1 e2 => by
  refine zaa (zrw (b:=decide (a = forL)) (zax (zer (ix 0 _ e1 rfl).b (zaf (l:=forL) (by decide +kernel) (by decide +kernel)).b)) (fun hb => ?_) (fun hb => ?_)) (zaa (ix 2 _ e1 rfl) (zaa (ix 3 _ e1 rfl) zae))
  ·rw [if_pos (of_decide_eq_true hb)] at hwt
   exact zeo (zad e2) (congrArg D.int hwt)
  ·rw [if_neg (of_decide_eq_false hb)] at hwt
   exact zeo (zo8 (zad e2).b) (congrArg D.int hwt)
 by_cases hm : mkR wt f s' = none
 ·exact zlx (zg3 (pre:=zqo) (bad:=zpl) (args rfl rfl) ⟨_, _, _, rfl⟩ ⟨_, _, _, rfl, hm⟩ (rx hm))
 ·exact zbq (zdf (pre:=zqo) (bad:=zpl) (res:=zqp ad0.c_Same ad0.c_Like ad0.c_Near ad0.c_Other ad0.c_Former) (args rfl rfl) ⟨_, _, _, rfl⟩ (by rintro ⟨_, _, _, e1, e2⟩; cases e1; exact hm e2)) (rt hm)
theorem zj2 {r : Rl} (h : RuOk r) : prs (rowL r) = some r := by
 unfold prs
 rw [zmr h]
 obtain ⟨⟨h5, _, h4⟩, hf, hw0, hw1⟩ := h
 obtain ⟨k, f, wt⟩ := r
 have hway : wayL wt = forL \/ wayL wt = agL := by unfold wayL; split; exact .inr rfl; exact .inl rfl
 have e : prsW (rowW (k, f, wt)) = mkR (if wayL wt = forL then ((NumText.digitsVal (numL wt.natAbs) : Nat) : Int) else -((NumText.digitsVal (numL wt.natAbs) : Nat) : Int)) f (zaw k) := if_pos ⟨hway, zrk (by show 0 < wt.natAbs; have : wt ≠ 0 := hw0; lia) hw1, hf⟩
 rw [e, zkw]
 have ew : (if wayL wt = forL then ((wt.natAbs : Nat) : Int) else -((wt.natAbs : Nat) : Int)) = wt := by
  unfold wayL
  by_cases h : wt < 0
  ·rw [if_pos h, if_neg (by decide +kernel)]; lia
  ·rw [if_neg h, if_pos rfl]; lia
 rw [ew]
 obtain ⟨m0, m1, m2, m3⟩ := zq4 wt f
 have h5 : k < 5 := h5
 match k, h5, h4 with
 | 0, _, _ => exact m0
 | 1, _, _ => exact m1
 | 2, _, _ => exact m2
 | 3, _, _ => exact m3
 | 4, _, h4 =>
  have : f = nmL := h4 rfl
  subst this
  unfold mkR
  rw [if_neg (by decide +kernel), if_neg (by decide +kernel), if_neg (by decide +kernel), if_neg (by decide +kernel), if_pos ⟨rfl, rfl⟩]
noncomputable def zoq (ds : List D) : Prop := ∃ (n : Int) (l : List Nat), ds = [.int n, .str l] /\ 0 <= n /\ n < 1000000 /\ l.length <= 5000
noncomputable def zob (ds : List D) : Prop := ∃ (n : Int) (l : List Nat), ds = [.int n, .str l] /\ prs l = none
noncomputable def zqm (c1 c2 c3 c4 c5 : Addr) : List D -> D
 | [.int _, .str l] => optR c1 c2 c3 c4 c5 (prs l)
 | _ => .non
noncomputable def zru : List D -> D
 | [.int n, .str _] => .int n
 | _ => .non
theorem zez (Z : Tx K mg ad0) : FnOk P w K mg base (CX2 P w) 6 ad0.f_numbered_rule ad0.d_numbered_rule ["number", "row"] (SpX K ad0.c_NoRow "row" zoq zob (zqm ad0.c_Same ad0.c_Like ad0.c_Near ad0.c_Other ad0.c_Former) zru) := by
 have G_read_rule := zdk (P:=P) (w:=w) (base:=base) Z
 have G_NoRow_init_H := zge (P:=P) (w:=w) (base:=base) Z
 refine Z.F_numbered_rule.okX2 zey (fun vs H Q E h => zdi (n:=2) (by rintro ds ⟨n, l, rfl, _⟩; rfl) h) (fun cdv A outer s H vs Q E hr h => ⟨_, (zao (zj5 G_read_rule (hr.mono (by decide)) (by rfl) Z.M_read_rule Z.F_read_rule.kp Z.B_read_rule (zab (pv 1) zag) (by rfl) Z.M_NoRow (fun _ => (zlv Z.XM_NoRow G_NoRow_init_H ((hr.mark _).mono (by decide)) (by rfl) Z.M_NoRow Z.B_NoRow_init zcf (zab (pv 0) zag) (by decide))))), ?_⟩)
 refine zkt h (by rw [zdi (n:=2) (by rintro ds ⟨n, l, rfl, _⟩; rfl) h]; decide) fun G ds hp rt rx => ?_
 obtain ⟨n, l, rfl, h0, h1, hl⟩ := hp
 exact zj1 (pre:=preT) (bad:=znd) (res:=zma ad0.c_Same ad0.c_Like ad0.c_Near ad0.c_Other ad0.c_Former) (zaa (zad rfl) zae) ⟨l, rfl, hl⟩ (fun nb => rt (by rintro ⟨_, _, e1, e2⟩; cases e1; exact nb ⟨l, rfl, e2⟩)) Z.H_NoRow_NoRow Z.XM_NoRow.cls (zaa (zad rfl) zae) h0 h1 (fun hb => rx (by obtain ⟨_, e1, e2⟩ := hb; cases e1; exact ⟨n, l, rfl, e2⟩))
noncomputable def zle (ds : List D) : Prop := ∃ tx, ds = [.str tx] /\ ∃ i ∈ zcg tx, prs (lnAt tx i) = none
noncomputable def zqw (c1 c2 c3 c4 c5 : Addr) : List D -> D
 | [.str tx] => .lst ((zcg tx).map fun i => optR c1 c2 c3 c4 c5 (prs (lnAt tx i)))
 | _ => .non
noncomputable def frsB (tx : List Nat) : Nat := ((zcg tx).find? fun i => (prs (lnAt tx i)).isNone).getD 0
noncomputable def zn9 : List D -> D
 | [.str tx] => .int ((frsB tx + 1 : Nat) : Int)
 | _ => .non
theorem zec (Z : Tx K mg ad0) : FnOk P w K mg base (CX2 P w) 7 ad0.f_read_rules ad0.d_read_rules ["text"] (SpX K ad0.c_NoRow "row" preT zle (zqw ad0.c_Same ad0.c_Like ad0.c_Near ad0.c_Other ad0.c_Former) zn9) := by
 have G_told_rows : FnOk P w K mg base CX0 6 ad0.f_told_rows ad0.d_told_rows ["text"] (SpO K preL zh3) := (zjj Z).mono (by decide)
 have G_numbered_rule := zez (P:=P) (w:=w) (base:=base) Z
 refine Z.F_read_rules.okX2 zhc (fun vs H Q E h => zdi (n:=1) (by rintro ds ⟨l, rfl, _⟩; rfl) h) (fun cdv A outer s H vs Q E hr h => ⟨_, (zao (zbs (zri rfl (LcOk.of (Nx:=(["text"] : List Str)) (sc:=zac za5) (N':=(["number", "row"] : List Str)) (nt:=2) (cs:=[]) rfl rfl (by decide +kernel)) (zmp (PE.nox (zbv G_told_rows (hr.mono (by decide)) (by rfl) Z.M_told_rows Z.F_told_rows.kp Z.B_told_rows .nil zcf (zab (pv 0) zag)))) (fun _ _ _ _ => (show PG _ _ (gTup K 2 _) from zo2 rfl (ze7 (zdx (i:=0) (show List.Nodup (["number", "row"] : List Str) by decide +kernel) rfl (Or.inl rfl)) (ze7 (zdx (i:=1) (show List.Nodup (["number", "row"] : List Str) by decide +kernel) rfl (Or.inl rfl)) zmm)))) (fun _ _ _ _ => zkn) (fun _ _ _ _ => (zbv G_numbered_rule (hr.mono (by decide)) (by rfl) Z.M_numbered_rule Z.F_numbered_rule.kp Z.B_numbered_rule .nil zsi (zab (pv 0) (zab (pv 1) zag)))) outC))), ?_⟩)
 refine zkt h (by rw [zdi (n:=1) (by rintro ds ⟨l, rfl, _⟩; rfl) h]; decide) fun G ds hp rt rx => ?_
 obtain ⟨tx, rfl, hl⟩ := hp
 have hsl : (splitL 10 tx).length <= tx.length + 2 := zcl 10 _ tx
 have hmem : ∀ i ∈ zcg tx, i < 6000 /\ (lnAt tx i).length <= 5000 := fun i hi => by
  unfold zcg at hi
  have h1 := List.mem_range.mp (List.mem_filter.mp hi).1
  refine ⟨by lia, ?_⟩
  unfold lnAt
  rw [List.getD_eq_getElem?_getD, List.getElem?_eq_getElem h1]
  have := zcb (List.getElem_mem h1)
  show (splitL 10 tx)[i].length <= 5000
  lia
 have htn : (zcg tx).length <= 6000 := by
  unfold zcg
  have := List.length_filter_le (fun i => !zcr (lnAt tx i)) (List.range (splitL 10 tx).length)
  rw [List.length_range] at this
  lia
 have src : ∀ {L0 : Hp} {ss : List Sl} {E1 : XK}, ss[0]? = some (.d (.str tx)) -> EvL K G H L0 ss (zex (SpO K preL zh3) [] E1 (zbf (tVar 0) tNil)) ((zcg tx).map (numD tx)) := fun e => EvO.l (zoh (pre:=preL) (res:=zh3) (zaa (zad e) zae) ⟨tx, rfl, by lia⟩)
 by_cases hb : ∃ i ∈ zcg tx, prs (lnAt tx i) = none
 ·have rx := rx ⟨tx, rfl, hb⟩
  obtain ⟨z, hz⟩ : ∃ z, (zcg tx).find? (fun i => (prs (lnAt tx i)).isNone) = some z := by
   cases e : (zcg tx).find? (fun i => (prs (lnAt tx i)).isNone) with
   | some z => exact ⟨z, rfl⟩
   | none =>
    obtain ⟨i, h1, h2⟩ := hb
    have := List.find?_eq_none.mp e i h1
    rw [h2] at this; simp at this
  have ez : frsB tx = z := by unfold frsB; rw [hz]; rfl
  have rx : RtX2 K G H E ad0.c_NoRow "row" (.int ((z + 1 : Nat) : Int)) := by rw [<- ez]; exact rx
  obtain ⟨hbz, kz, hkz, ekz, hjz⟩ := List.find?_eq_some_iff_getElem.mp hz
  have hbad : prs (lnAt tx z) = none := Option.isNone_iff_eq_none.mp hbz
  have hat : (zcg tx)[kz]? = some z := by rw [List.getElem?_eq_getElem hkz, ekz]
  have hm := hmem _ (List.mem_of_getElem? hat)
  refine zlx (zqz (zcg tx) (numD tx) (fun i => optR ad0.c_Same ad0.c_Like ad0.c_Near ad0.c_Other ad0.c_Former (prs (lnAt tx i))) kz _ hat (src rfl) (znm (zdl (zdh (by decide)) (zdl (zdh (by decide)) zjp))) (by decide) (by rw [sizeLine_eq]; lia) (fun i x hi hx => ?_) ?_)
  ·have hxm := hmem x (List.mem_of_getElem? hx)
   have hg : prs (lnAt tx x) ≠ none := fun z => by
    have h := hjz i hi
    obtain ⟨hl1, e1⟩ := List.getElem?_eq_some_iff.mp hx
    rw [e1, z] at h
    cases h
   exact ⟨_, zkf rfl (zci zce (zci zce zho)), zdf (pre:=zoq) (bad:=zob) (res:=zqm ad0.c_Same ad0.c_Like ad0.c_Near ad0.c_Other ad0.c_Former) (zaa (zad rfl) (zaa (zad rfl) zae)) ⟨_, _, rfl, by lia, by lia, hxm.2⟩ (by rintro ⟨_, _, e1, e2⟩; cases e1; exact hg e2)⟩
  ·exact ⟨_, zkf rfl (zci zce (zci zce zho)), zg3 (pre:=zoq) (bad:=zob) (err:=zru) (zaa (zad rfl) (zaa (zad rfl) zae)) ⟨_, _, rfl, by lia, by lia, hm.2⟩ ⟨_, _, rfl, hbad⟩ rx⟩
 ·have rt := rt (by rintro ⟨_, e1, e2⟩; cases e1; exact hb e2)
  refine zbq (EvO.ev (zqi (zcg tx) (numD tx) (fun i => optR ad0.c_Same ad0.c_Like ad0.c_Near ad0.c_Other ad0.c_Former (prs (lnAt tx i))) (src rfl) (znm (zdl (zdh (by decide)) (zdl (zdh (by decide)) zjp))) (by decide) (by rw [sizeLine_eq]; lia) fun i hi => ?_)) rt
  have hxm := hmem i hi
  exact ⟨_, zkf rfl (zci zce (zci zce zho)), zdf (pre:=zoq) (bad:=zob) (res:=zqm ad0.c_Same ad0.c_Like ad0.c_Near ad0.c_Other ad0.c_Former) (zaa (zad rfl) (zaa (zad rfl) zae)) ⟨_, _, rfl, by lia, by lia, hxm.2⟩ (by rintro ⟨_, _, e1, e2⟩; cases e1; exact hb ⟨i, hi, e2⟩)⟩
noncomputable abbrev Ln := List Nat × Option Rl
noncomputable def LnOk (p : Ln) : Prop := 10 ∉ p.1 /\ p.1.length <= 100 /\ match p.2 with
 | none => zcr p.1 = true
 | some x => p.1 = rowL x /\ RuOk x
noncomputable def zsv (ls : List Ln) : List Rl := ls.filterMap fun p => p.2
noncomputable def zs3 (ls : List Ln) : List Nat := glue [10] (ls.map (·.1))
theorem zkc (x : Rl) : ∃ c t, rowL x = c :: t /\ (c = 102 \/ c = 97) := by
 have h : ∃ c t, wayL x.2.2 = c :: t /\ (c = 102 \/ c = 97) := by
  unfold wayL
  split
  ·exact ⟨97, agL.tail, by decide +kernel, .inr rfl⟩
  ·exact ⟨102, forL.tail, by decide +kernel, .inl rfl⟩
 obtain ⟨c, t, e, hc⟩ := h
 unfold rowL rowW
 rw [e]
 exact ⟨c, _, rfl, hc⟩
theorem zll {c : Nat} {t : List Nat} (h : c ≠ 32) : zcm [32].contains (c :: t) ≠ [] := by
 unfold zcm
 have e : (c :: t).dropWhile [32].contains = c :: t := by
  rw [List.dropWhile_cons]
  simp [h]
 rw [e]
 intro z
 have z := List.reverse_eq_nil_iff.mp z
 have : c ∈ (c :: t).reverse := by simp
 have hs : ∀ l : List Nat, l.dropWhile [32].contains = [] -> ∀ x ∈ l, x = 32 := fun l => by
  induction l with
  | nil => intro _ x hx; cases hx
  | cons a l ih =>
   intro hl x hx
   rw [List.dropWhile_cons] at hl
   split at hl
   ·rename_i ha
    rcases List.mem_cons.mp hx with rfl | hx
    ·simpa using ha
    ·exact ih hl x hx
   ·cases hl
 exact h (hs _ z c this)
theorem zn2 (x : Rl) : zcr (rowL x) = false := by
 obtain ⟨c, t, e, hc⟩ := zkc x
 have hc2 : c ≠ 32 /\ c ≠ 35 := by lia
 unfold zcr
 rw [e, decide_eq_false (zll hc2.1)]
 simp [hc2.2]
theorem zih {ls : List (List Nat)} {n : Nat} (h : ∀ l ∈ ls, l.length <= n) : (ls.map List.length).sum <= n * ls.length := by
 induction ls with
 | nil => simp
 | cons a l ih =>
  have h1 := h a List.mem_cons_self
  have h2 := ih fun x hx => h x (List.mem_cons_of_mem _ hx)
  simp only [List.map_cons, List.sum_cons, List.length_cons]
  rw [Nat.mul_add]; lia
theorem ze5 (z : List Nat) : ∀ ls : List (List Nat), (glue z ls).length <= (ls.map List.length).sum + z.length * ls.length
 | [] => by simp [glue]
 | [a] => by simp [glue]
 | a :: b :: r => by
  have := ze5 z (b :: r)
  simp only [glue, List.length_append, List.map_cons, List.sum_cons, List.length_cons, Nat.mul_add, Nat.mul_one] at this ⊢
  lia
theorem zpn {α : Type} (xs : List α) (z : α) (x : Int) {n : Int} (hn : (xs.length : Int) = n) (h0 : 0 < n) : atI xs (x % n) = some (xs.getD (x % n).toNat z) := by
 have h1 := Int.emod_nonneg x (show n ≠ 0 by omega)
 have h2 := Int.emod_lt_of_pos x h0
 have := zhz (xs:=xs) (j:=(x % n).toNat) (v:=xs.getD (x % n).toNat z) (by rw [List.getD_eq_getElem?_getD, List.getElem?_eq_getElem (by lia)]; rfl)
 rw [show (((x % n).toNat : Nat) : Int) = x % n by lia] at this
 exact this
theorem zc9 (ws : List (List Nat)) (x : Int) {n : Int} (hn : (ws.length : Int) = n) (h0 : 0 < n) : ∃ l, l ∈ ws /\ l = ws.getD (x % n).toNat [] /\ atI (ws.map D.str) (x % n) = some (.str l) := by
 have h1 := Int.emod_nonneg x (show n ≠ 0 by omega)
 have h2 := Int.emod_lt_of_pos x h0
 have h := zpn (ws.map D.str) (.str []) x (n:=n) (by rw [List.length_map]; exact hn) h0
 have hc : (x % n).toNat < ws.length := by lia
 refine ⟨ws[(x % n).toNat], List.getElem_mem _, by rw [List.getD_eq_getElem?_getD, List.getElem?_eq_getElem hc]; rfl, ?_⟩
 rw [h, List.getD_eq_getElem?_getD, List.getElem?_map, List.getElem?_eq_getElem hc]; rfl
noncomputable def zrh (ds : List D) : Prop := ∃ c : Int, ds = [.int c]
noncomputable def zrc (_ : List D) (rs : List D) : Prop := ∃ r : Rl, RuOk r /\ rs = (rowW r).map D.str
noncomputable def znc : List (List Nat) := [zaw 0, zaw 1, zaw 2, zaw 3, zaw 4]
theorem zqk : ∀ f ∈ flds, ∀ c ∈ f, c < 128 := by decide +kernel
theorem zlb : ∀ n, n < 5 -> znc.getD n [] = zaw n := by decide +kernel
theorem zh8 (Z : Tx K mg ad0) : FnOk P w K mg base CX0 1 ad0.f_law_words ad0.d_law_words ["_law_cell"] (SpR K zrh zrc) := by
 refine Z.F_law_words.ok zbz (fun vs H Q E h => zmv (n:=1) (by rintro ds ⟨c, rfl⟩; rfl) h) (fun cdv A outer s H vs Q E hr h => ⟨_, (zai (zb2 (i:=1) zbz.nd rfl (Or.inl rfl) (zdo (show IxR _ (rIxL K) from za6) (zdt (zab zal (zab zal zag))) (zb1 zcj (pv 0) zas) (fun _ _ => rfl)))
   (zai (zb2 (i:=2) zbz.nd rfl (Or.inl rfl) (zd5 (show zco _ _ zow from zja) (by rfl) Z.z_str boot_str (zab (zb1 zi1 zas (zb1 zcj (zb1 zfs (pv 0) zas) (zb1 zrf zas zas))) zag)))
   (zai (zb2 (i:=3) zbz.nd rfl (Or.inl rfl) (zdo (show IxR _ (rIxL K) from za6) (zdt (zab zal (zab zal (zab zal (zab zal (zab zal zag)))))) (zb1 zcj (zb1 zfs (pv 0) zas) zas) (fun _ _ => rfl)))
   (zai (zb2 (i:=4) zbz.nd rfl (Or.inl rfl) (zdo (show IxR _ (rIxL K) from za6) (zdt (zab zal (zab zal (zab zal (zab zal (zab zal zag)))))) (zb1 zcj (zb1 zfs (pv 0) zas) zas) (fun _ _ => rfl)))
   (zai (zdb (zbc zcq (pv 4) zal (zba _)) (zao (zb2 (i:=3) zbz.nd rfl (Or.inl rfl) zal)) zbt)
   (zao (zbs (zdt (zab (pv 1) (zab (pv 2) (zab (pv 3) (zab (pv 4) zag)))))))))))), ?_⟩)
 refine zr1 h (by rw [zmv (n:=1) (by rintro ds ⟨c, rfl⟩; rfl) h]; decide) fun G ds hp rt => ?_
 obtain ⟨c, rfl⟩ := hp
 have p9 : ∀ {L0 : Hp} {ss : List Sl}, Ev K G H L0 ss (tOp (rI CPow fun i j => .int (i ^ j.toNat)) (tC (.int 10)) (tC (.int 9))) (.int 1000000000) := zeo (zq3 zaq.b zaq.b ⟨by decide, by decide, by decide⟩) (congrArg D.int (by decide))
 obtain ⟨wy, _, ewy, hwy⟩ := zc9 [forL, agL] c (n:=2) rfl (by decide)
 refine zat (zdq (d:=.str wy) (zck (EvO.l (zbi (ds:=[forL, agL].map D.str) (zaa (zaf (by decide +kernel) (by decide +kernel)) (zaa (zaf (by decide +kernel) (by decide +kernel)) zae)) (small (by decide)))) (zd9 (zad rfl).b zaq.b (by decide)).b hwy) ?_)
 ((try dsimp only); refine zbj ?_)
 have h10 : (10 : Int) ^ 10 = 10000000000 := by decide
 obtain ⟨n, hn⟩ : ∃ n : Int, 1 + c / 2 % 1000000000 = n := ⟨_, rfl⟩
 have hn1 : 1 <= n /\ n <= 1000000000 := by lia
 refine zat (zdq (d:=.str (numL n.toNat)) (znl (zeo (zi2 zaq.b (zd9 (zff (zad rfl).b zaq.b ⟨by decide, by decide⟩).b p9.b (by decide)).b) (congrArg D.int hn)).b (by lia) (by lia)) ?_)
 ((try dsimp only); refine zbj ?_)
 obtain ⟨f, hf, _, ef⟩ := zc9 flds (c / 7) (n:=5) rfl (by decide)
 refine zat (zdq (d:=.str f) (zck (EvO.l (zbi (ds:=flds.map D.str) (zaa (zaf (by decide +kernel) (by decide +kernel)) (zaa (zaf (by decide +kernel) (by decide +kernel)) (zaa (zaf (by decide +kernel) (by decide +kernel)) (zaa (zaf (by decide +kernel) (by decide +kernel)) (zaa (zaf (by decide +kernel) (by decide +kernel)) zae))))) (small (by decide)))) (zd9 (zff (zad rfl).b zaq.b ⟨by decide, by decide⟩).b zaq.b (by decide)).b ef) ?_)
 ((try dsimp only); refine zbj ?_)
 have hs5 : (c / 35 % 5).toNat < 5 := by lia
 obtain ⟨so, _, eso, hso⟩ := zc9 znc (c / 35) (n:=5) rfl (by decide)
 rw [zlb _ hs5] at eso
 subst eso
 refine zat (zdq (d:=.str (zaw (c / 35 % 5).toNat)) (zck (EvO.l (zbi (ds:=znc.map D.str) (zaa (zaf (by decide +kernel) (by decide +kernel)) (zaa (zaf (by decide +kernel) (by decide +kernel)) (zaa (zaf (by decide +kernel) (by decide +kernel)) (zaa (zaf (by decide +kernel) (by decide +kernel)) (zaa (zaf (by decide +kernel) (by decide +kernel)) zae))))) (small (by decide)))) (zd9 (zff (zad rfl).b zaq.b ⟨by decide, by decide⟩).b zaq.b (by decide)).b hso) ?_)
 ((try dsimp only); refine zbj ?_)
 generalize (c / 35 % 5).toNat = s at hs5
 refine zj7 (fun ss => ∃ g, ss = [.d (.int c), .d (.str wy), .d (.str (numL n.toNat)), .d (.str g), .d (.str (zaw s))] /\ g ∈ flds /\ (s = 4 -> g = nmL)) (fun N hN => zb3 (zax (zer (zad rfl).b (zaf (l:=zaw 4) (by decide +kernel) (zif 4 (by decide))).b)) (fun hb => zdq (zaf (l:=nmL) zqn.symm zna) (hN _ ⟨nmL, rfl, by decide +kernel, fun _ => rfl⟩)) (fun hb => zaz (hN _ ⟨f, rfl, hf, fun h => absurd (by rw [h]) (of_decide_eq_false hb)⟩))) ?_
 rintro ss ⟨g, rfl, hg, hg4⟩
 obtain ⟨wt, hw1, hw2⟩ : ∃ wt : Int, wayL wt = wy /\ wt.natAbs = n.toNat := by
  have h2 : (c % 2).toNat = 0 \/ (c % 2).toNat = 1 := by lia
  rcases h2 with h2 | h2 <;> rw [h2] at ewy <;> subst ewy
  ·exact ⟨n, by unfold wayL; rw [if_neg (by lia)]; rfl, by lia⟩
  ·exact ⟨-n, by unfold wayL; rw [if_pos (by lia)]; rfl, by lia⟩
 refine zm9 (ds:=(rowW (s, g, wt)).map D.str) ?_ (rt _ ⟨(s, g, wt), ⟨⟨hs5, zqk g hg, hg4⟩, hg, by show wt ≠ 0; lia, by show wt.natAbs <= _; lia⟩, rfl⟩)
 refine zbi (ds:=[D.str (wayL wt), D.str (numL wt.natAbs), D.str g, D.str (zaw s)]) ?_ (small (by simp))
 rw [hw1, hw2]
 exact zaa (zad rfl) (zaa (zad rfl) (zaa (zad rfl) (zaa (zad rfl) zae)))
noncomputable abbrev rCatT : R2 := fun x y H Q => ∃ i j, x = .str i /\ y = .str j /\ i.length + j.length <= sizeLine /\ Q (.str (i ++ j)) H
noncomputable def bads (l : List Nat) : List (List Nat) := [[48], [48] ++ l, ("1000000001" : Str).cps.toList, ("10000000000" : Str).cps.toList, [45] ++ l, [43] ++ l, l ++ [46], ("1_0" : Str).cps.toList, [48, 48]] ++ [[120], ("1e3" : Str).cps.toList, ("99999999999" : Str).cps.toList, l ++ [44, 48]]
theorem zot {l : List Nat} {x : Nat} (h : x ∈ l) (hx : x ∉ figs) : amB l = false := by
 cases l with
 | nil => rfl
 | cons c r =>
  rw [zea]
  have : (c :: r).all (fun c => decide (c ∈ figs)) = false := by
   rw [List.all_eq_false]
   exact ⟨x, h, by simpa using hx⟩
  rw [this]; simp
theorem zqh {n : Nat} (h0 : 0 < n) (h : n <= 1000000000) : ∀ l ∈ bads (numL n), amB l = false /\ 32 ∉ l /\ 10 ∉ l /\ l.length <= 20 := by
 have hl := zk0 h
 have n32 := zie n 32 (by decide)
 have n10 := zie n 10 (by decide)
 intro l hm
 unfold bads at hm
 simp only [List.mem_append, List.mem_cons, List.not_mem_nil, or_false] at hm
 rcases hm with (rfl | rfl | rfl | rfl | rfl | rfl | rfl | rfl | rfl) | rfl | rfl | rfl | rfl
 ·decide +kernel
 ·exact ⟨rfl, by simpa using n32, by simpa using n10, by simp; lia⟩
 ·decide +kernel
 ·decide +kernel
 ·exact ⟨zot (x:=45) (by simp) (by decide), by simpa using n32, by simpa using n10, by simp; lia⟩
 ·exact ⟨zot (x:=43) (by simp) (by decide), by simpa using n32, by simpa using n10, by simp; lia⟩
 ·exact ⟨zot (x:=46) (by simp) (by decide), by simpa using n32, by simpa using n10, by simp; lia⟩
 ·decide +kernel
 ·decide +kernel
 ·decide +kernel
 ·decide +kernel
 ·decide +kernel
 ·exact ⟨zot (x:=44) (by simp) (by decide), by simpa using n32, by simpa using n10, by simp; lia⟩
noncomputable def zrr (ds : List D) : Prop := ∃ (l : List Nat) (d : Int), ds = [.str l, .int d] /\ l.length <= 20
noncomputable def zr2 : List D -> D
 | [.str l, .int d] => .str ((bads l).getD (d % 13).toNat [])
 | _ => .non
theorem zei (Z : Tx K mg ad0) : FnOk P w K mg base CX0 1 ad0.f_law_bad_number ad0.d_law_bad_number ["_law_number", "_law_draw"] (SpD K zrr zr2) := by
 refine Z.F_law_bad_number.ok zcv (fun vs H Q E h => zca (n:=2) (by rintro ds ⟨l, d, rfl, _⟩; rfl) h) (fun cdv A outer s H vs Q E hr h => ⟨_, (zai (zb2 (i:=2) zcv.nd rfl (Or.inl rfl) (zdt (zab zal (zab (zb1 zbg zal (pv 0)) (zab zal (zab zal (zab (zb1 zbg zal (pv 0)) (zab (zb1 zbg zal (pv 0)) (zab (zb1 zbg (pv 0) zal) (zab zal (zab zal zag)))))))))))
   (zao (zbs (zdo (show IxR _ (rIxL K) from za6) (zb1 (show OpR _ _ (zfh K) from zcw) (pv 2) (zdt (zab zal (zab zal (zab zal (zab (zb1 zbg (pv 0) zal) zag)))))) (zb1 zcj (pv 1) zas) (fun _ _ => rfl))))), ?_⟩)
 refine zg2 h (by rw [zca (n:=2) (by rintro ds ⟨l, d, rfl, _⟩; rfl) h]; decide) fun G ds hp rt => ?_
 obtain ⟨l, d, rfl, hl⟩ := hp
 have rt : RtD K G H Q (.str ((bads l).getD (d % 13).toNat [])) := rt
 obtain ⟨b, _, eb, hb⟩ := zc9 (bads l) d (n:=13) rfl (by decide)
 rw [<- eb] at rt
 have s1 : ∀ {L0 : Hp} {ss : List Sl} (z : List Nat) (x : Str), x = T z -> (∀ c ∈ z, c < 128) -> z.length <= 20 -> ss[0]? = some (.d (.str l)) -> Ev K G H L0 ss (tOp rCatT (tC (.str x)) (tVar 0)) (.str (z ++ l)) := fun z x e1 e2 e3 e => zeh (zaf e1 e2).b (zad e).b (small (by lia))
 have s2 : ∀ {L0 : Hp} {ss : List Sl} (z : List Nat) (x : Str), x = T z -> (∀ c ∈ z, c < 128) -> z.length <= 20 -> ss[0]? = some (.d (.str l)) -> Ev K G H L0 ss (tOp rCatT (tVar 0) (tC (.str x))) (.str (l ++ z)) := fun z x e1 e2 e3 e => zeh (zad e).b (zaf e1 e2).b (small (by lia))
 refine zat (zej (ds:=(List.take 9 (bads l)).map D.str) (zbi (ds:=[D.str [48], D.str ([48] ++ l), D.str ("1000000001" : Str).cps.toList, D.str ("10000000000" : Str).cps.toList, D.str ([45] ++ l), D.str ([43] ++ l), D.str (l ++ [46]), D.str ("1_0" : Str).cps.toList, D.str [48, 48]]) (zaa (zaf (by decide +kernel) (by decide +kernel)) (zaa (s1 _ _ (by decide +kernel) (by decide) (by decide) rfl) (zaa (zaf (by decide +kernel) (by decide +kernel)) (zaa (zaf (by decide +kernel) (by decide +kernel)) (zaa (s1 _ _ (by decide +kernel) (by decide) (by decide) rfl) (zaa (s1 _ _ (by decide +kernel) (by decide) (by decide) rfl) (zaa (s2 _ _ (by decide +kernel) (by decide) (by decide) rfl) (zaa (zaf (by decide +kernel) (by decide +kernel)) (zaa (zaf (by decide +kernel) (by decide +kernel)) zae))))))))) (small (by simp))) fun p => zcd (i:=2) rfl ?_)
 ((try dsimp only); refine zbj ?_)
 refine zbq (zck (ds:=(bads l).map D.str) (EvO.l (zcx (da:=(List.take 9 (bads l)).map D.str) (db:=(List.drop 9 (bads l)).map D.str) (zad rfl).l (EvO.l (zbi (ds:=[D.str [120], D.str ("1e3" : Str).cps.toList, D.str ("99999999999" : Str).cps.toList, D.str (l ++ [44, 48])]) (zaa (zaf (by decide +kernel) (by decide +kernel)) (zaa (zaf (by decide +kernel) (by decide +kernel)) (zaa (zaf (by decide +kernel) (by decide +kernel)) (zaa (s2 _ _ (by decide +kernel) (by decide) (by decide) rfl) zae)))) (small (by simp)))) (small (by simp [bads])))) (zd9 (zad rfl).b zaq.b (by decide)).b hb) rt
noncomputable def BadL (l : List Nat) : Prop := ∃ ws : List (List Nat), ws ≠ [] /\ ws.length <= 7 /\ (∀ p ∈ ws, 32 ∉ p /\ 10 ∉ p /\ p.length <= 20) /\ l = glue [32] ws /\ prsW ws = none
theorem zhy {z : List Nat} {c : Nat} : ∀ {ls : List (List Nat)}, c ∈ glue z ls -> c ∈ z \/ ∃ l ∈ ls, c ∈ l
 | [], h => by simp [glue] at h
 | [a], h => by simp [glue] at h; exact .inr ⟨a, by simp, h⟩
 | a :: b :: r, h => by
  simp only [glue, List.mem_append] at h
  rcases h with (h | h) | h
  ·exact .inr ⟨a, by simp, h⟩
  ·exact .inl h
  ·rcases zhy h with h | ⟨l, h1, h2⟩
   ·exact .inl h
   ·exact .inr ⟨l, List.mem_cons_of_mem _ h1, h2⟩
theorem zpv {l : List Nat} (h : BadL l) : prs l = none /\ 10 ∉ l /\ l.length <= 200 := by
 obtain ⟨ws, h0, h7, hp, rfl, hn⟩ := h
 have hg := ze5 [32] ws
 have hs := zih (ls:=ws) (n:=20) fun l hl => (hp l hl).2.2
 have hlw : ∀ qs : List (List Nat), qs.length <= (glue [32] qs).length + 1 := fun qs => by
  induction qs with
  | nil => simp
  | cons a r ih =>
   cases r with
   | nil => simp
   | cons b r => simp only [glue, List.length_append, List.length_cons, List.length_nil] at ih ⊢; lia
 refine ⟨?_, fun z => ?_, ?_⟩
 ·unfold prs splitL
  rw [zdm h0 (fun p hp' => (hp p hp').1) (by have := hlw ws; lia)]
  exact hn
 ·rcases zhy z with z | ⟨l, h1, h2⟩
  ·simp at z
  ·exact (hp l h1).2.1 h2
 ·simp only [List.length_cons, List.length_nil] at hg
  lia
theorem zc4 (ws : List (List Nat)) (h0 : ws ≠ []) (h7 : ws.length <= 7) (hp : ∀ p ∈ ws, 32 ∉ p /\ 10 ∉ p /\ p.length <= 20) {l : List Nat} (e : l = glue [32] ws) (hn : prsW ws = none) : BadL l := ⟨ws, h0, h7, hp, e, hn⟩
theorem zj4 {r : Rl} (h : RuOk r) : ∀ p ∈ rowW r, 32 ∉ p /\ 10 ∉ p /\ p.length <= 20 := by
 obtain ⟨⟨h5, _⟩, hf, _, hn⟩ := h
 intro p hp
 unfold rowW at hp
 simp only [List.mem_cons, List.not_mem_nil, or_false] at hp
 rcases hp with rfl | rfl | rfl | rfl
 ·have := zk7 r.2.2; exact ⟨this.1, this.2.1, by lia⟩
 ·have := zk0 hn; exact ⟨zie _ 32 (by decide), zie _ 10 (by decide), by lia⟩
 ·have := zjs _ hf; exact ⟨this.1, this.2.1, by lia⟩
 ·have := zhl _ h5; exact ⟨this.1, this.2.1, by lia⟩
noncomputable def sp1 : List (List Nat) := [("For" : Str).cps.toList, ("fo" : Str).cps.toList, ("with" : Str).cps.toList, ("againsts" : Str).cps.toList, ("FOR" : Str).cps.toList, ("if" : Str).cps.toList]
noncomputable def sp3 : List (List Nat) := [("names" : Str).cps.toList, ("Name" : Str).cps.toList, ("same" : Str).cps.toList, ("NAME" : Str).cps.toList, ("apart" : Str).cps.toList, ("sort" : Str).cps.toList]
noncomputable def sp4 : List (List Nat) := [("Same" : Str).cps.toList, ("likes" : Str).cps.toList, ("nea" : Str).cps.toList, ("others" : Str).cps.toList, ("equal" : Str).cps.toList, ("name" : Str).cps.toList]
noncomputable def sp5 : List (List Nat) := [("former" : Str).cps.toList, ("way" : Str).cps.toList, ("day" : Str).cps.toList, ("mark" : Str).cps.toList]
theorem znz : ∀ b ∈ sp1 ++ sp3 ++ sp4 ++ sp5, 32 ∉ b /\ 10 ∉ b /\ b.length <= 20 := by decide +kernel
theorem zrp : ∀ b ∈ sp1, b ≠ forL /\ b ≠ agL := by decide +kernel
theorem zro : ∀ b ∈ sp3, b ∉ flds := by decide +kernel
theorem zr4 : ∀ b ∈ sp4, b ≠ zaw 0 /\ b ≠ zaw 1 /\ b ≠ zaw 2 /\ b ≠ zaw 3 /\ b ≠ zaw 4 := by decide +kernel
theorem zsf : ∀ b ∈ sp5, b ≠ nmL := by decide +kernel
theorem zkb {a n f s : List Nat} (h : a ≠ forL /\ a ≠ agL) : prsW [a, n, f, s] = none := if_neg fun z => by rcases z.1 with z | z; exact h.1 z; exact h.2 z
theorem zoc {a n f s : List Nat} (h : amB n = false) : prsW [a, n, f, s] = none := if_neg fun z => by rw [h] at z; cases z.2.1
theorem zn8 {a n f s : List Nat} (h : f ∉ flds) : prsW [a, n, f, s] = none := if_neg fun z => h z.2.2
theorem zkg {a n f s : List Nat} (h : ∀ w, mkR w f s = none) : prsW [a, n, f, s] = none := by
 show (if _ then _ else _) = _
 by_cases z : (a = forL \/ a = agL) /\ amB n = true /\ f ∈ flds
 ·rw [if_pos z]; exact h _
 ·rw [if_neg z]
noncomputable def zr6 (ds : List D) : Prop := ∃ (r : Rl) (k d : Int), ds = [.lst ((rowW r).map D.str), .int k, .int d] /\ RuOk r
noncomputable def zr0 (_ : List D) (d : D) : Prop := ∃ l, d = .str l /\ BadL l
theorem zgk (Z : Tx K mg ad0) : FnOk P w K mg base CX0 2 ad0.f_law_spoiled ad0.d_law_spoiled ["_law_words_here", "_law_way", "_law_draw"] (SpRD K zr6 zr0) := by
 have G_law_bad_number := zei (P:=P) (w:=w) (base:=base) Z
 refine Z.F_law_spoiled.ok zdv (fun vs H Q E h => zky (n:=3) (by rintro ds ⟨r, k, d, rfl, _⟩; rfl) h) (fun cdv A outer s H vs Q E hr h => ⟨_, (zha (zch (zra (i:=3) zdv.nd rfl (Or.inl rfl) (zhg F.plainAttrs_str F.slot_str_join F.type_str_join zb5 zau (zak (iv 0) zbx)))
   (zch (zjx (zdy zcq (iv 1) zbr (zba _)) (zdd (zet (zf6 (show IxR _ (rIxL K) from za6) (zc8 (zak zau (zak zau (zak zau (zak (zhg F.plainAttrs_str F.slot_str_join F.type_str_join zb5 zau (zak (zcy zcn (iv 0) zcs (zd3 zbr)) zbx)) (zak (zdg zbg (iv 3) zau) (zak zau zbx))))))) (zdg zcj (iv 2) zbr) (fun _ _ => rfl)))) zd1)
   (zch (zjx (zdy zcq (iv 1) zbr (zba _)) (zdd (zet (zhg F.plainAttrs_str F.slot_str_join F.type_str_join zb5 zau (zak (zdg (show OpR _ _ (zfh K) from zcw) (zc8 (zak (zf6 (show IxR _ (rIxL K) from za6) (zc8 (zak zau (zak zau (zak zau (zak zau (zak zau (zak zau zbx))))))) (zdg zcj (iv 2) zbr) (fun _ _ => rfl)) zbx)) (zcy zcn (iv 0) (zd3 zbr) zcs)) zbx)))) zd1)
   (zch (zjx (zdy zcq (iv 1) zbr (zba _)) (zdd (zet (zhg F.plainAttrs_str F.slot_str_join F.type_str_join zb5 zau (zak (zdg (show OpR _ _ (zfh K) from zcw) (zc8 (zak (zf6 (show IxR _ (rIxL K) from za6) (iv 0) zbr (fun _ _ => rfl)) (zak (zqc G_law_bad_number (hr.mono (by decide)) (by rfl) Z.M_law_bad_number Z.F_law_bad_number.kp Z.B_law_bad_number .nil zcf (zak (zf6 (show IxR _ (rIxL K) from za6) (iv 0) zbr (fun _ _ => rfl)) (zak (iv 2) zbx))) zbx))) (zcy zcn (iv 0) (zd3 zbr) zcs)) zbx)))) zd1)
   (zch (zjx (zdy zcq (iv 1) zbr (zba _)) (zdd (zet (zhg F.plainAttrs_str F.slot_str_join F.type_str_join zb5 zau (zak (zdg (show OpR _ _ (zfh K) from zcw) (zcy zcn (iv 0) zcs (zd3 zbr)) (zc8 (zak (zf6 (show IxR _ (rIxL K) from za6) (zc8 (zak zau (zak zau (zak zau (zak zau (zak zau (zak zau zbx))))))) (zdg zcj (iv 2) zbr) (fun _ _ => rfl)) (zak (zf6 (show IxR _ (rIxL K) from za6) (iv 0) zbr (fun _ _ => rfl)) zbx)))) zbx)))) zd1)
   (zch (zjx (zdy zcq (iv 1) zbr (zba _)) (zdd (zet (zhg F.plainAttrs_str F.slot_str_join F.type_str_join zb5 zau (zak (zdg (show OpR _ _ (zfh K) from zcw) (zcy zcn (iv 0) zcs (zd3 zbr)) (zc8 (zak (zf6 (show IxR _ (rIxL K) from za6) (zc8 (zak zau (zak zau (zak zau (zak zau (zak zau (zak zau zbx))))))) (zdg zcj (iv 2) zbr) (fun _ _ => rfl)) zbx))) zbx)))) zd1)
   (zch (zjx (zdy zcq (iv 1) zbr (zba _)) (zdd (zet (zhg F.plainAttrs_str F.slot_str_join F.type_str_join zb5 zau (zak (zdg (show OpR _ _ (zfh K) from zcw) (zcy zcn (iv 0) zcs (zd3 zbr)) (zc8 (zak (zf6 (show IxR _ (rIxL K) from za6) (zc8 (zak zau (zak zau (zak zau (zak zau zbx))))) (zdg zcj (iv 2) zbr) (fun _ _ => rfl)) (zak zau zbx)))) zbx)))) zd1)
   (zch (zjx (zdy zcq (iv 1) zbr (zba _)) (zdd (zet (zf6 (show IxR _ (rIxL K) from za6) (zc8 (zak (zdg zbg zau (iv 3)) (zak (zdg zbg (iv 3) zau) (zak (zhg F.plainAttrs_str F.slot_str_join F.type_str_join zb5 zau (zak (iv 0) zbx)) (zak (zdg zbg (zdg zbg (zf6 (show IxR _ (rIxL K) from za6) (iv 0) zbr (fun _ _ => rfl)) zau) (zhg F.plainAttrs_str F.slot_str_join F.type_str_join zb5 zau (zak (zcy zcn (iv 0) (zd3 zbr) zcs) zbx))) zbx))))) (zdg zcj (iv 2) zbr) (fun _ _ => rfl)))) zd1)
   (zdd (zet (zdg zbg zau (iv 3))))))))))))), ?_⟩)
 refine zqe h (by rw [zky (n:=3) (by rintro ds ⟨r, k, d, rfl, _⟩; rfl) h]; decide) fun G ds hp rt => ?_
 obtain ⟨r, k, d, rfl, hR⟩ := hp
 have hpo := zj4 hR
 have hrl := zka hR
 have hnum : 0 < r.2.2.natAbs := by have := hR.2.2.1; lia
 have hbn := zqh hnum hR.2.2.2
 have hn20 : (numL r.2.2.natAbs).length <= 20 := (hpo _ (by unfold rowW; simp)).2.2
 have rt : ∀ l, BadL l -> RtD K G H Q (.str l) := fun l hl => rt _ ⟨l, rfl, hl⟩
 obtain ⟨a, n, f, s', e4⟩ : ∃ a n f s', rowW r = [a, n, f, s'] := ⟨_, _, _, _, rfl⟩
 have en : n = numL r.2.2.natAbs := by have := e4; unfold rowW at this; simp at this; exact this.2.1.symm
 have erow : rowL r = glue [32] [a, n, f, s'] := by unfold rowL; rw [e4]
 rw [e4] at hpo
 rw [<- en] at hbn hn20
 rw [erow] at hrl
 have hla : a.length <= 7 := by have := (zk7 r.2.2).2.2.1; have e := e4; unfold rowW at e; simp at e; rw [<- e.1]; exact this
 have oa := hpo a (by simp); have on := hpo n (by simp); have of' := hpo f (by simp); have os := hpo s' (by simp)
 rw [e4]
 clear erow e4 en
 have ix : ∀ {L0 : Hp} {ss : List Sl} (j : Int) (m : List Nat), ss[0]? = some (.d (.lst ([a, n, f, s'].map D.str))) -> atI ([a, n, f, s'].map D.str) j = some (.str m) -> Ev K G H L0 ss (tOp (rIxL K) (tVar 0) (tC (.int j))) (.str m) := fun j m e h => zck (zad e).l zaq.b h
 have slT : ∀ {L0 : Hp} {ss : List Sl} (j : Int) (q : List D), ss[0]? = some (.d (.lst ([a, n, f, s'].map D.str))) -> cutD ([a, n, f, s'].map D.str) none (some j) = q -> EvL K G H L0 ss (tSl (rSlL K) (tVar 0) zhv (zmc (tC (.int j)))) q := fun j q e h => by rw [<- h]; exact EvO.l (zf5 (zad e).l ziq (zed zaq.b))
 have slF : ∀ {L0 : Hp} {ss : List Sl} (j : Int) (q : List D), ss[0]? = some (.d (.lst ([a, n, f, s'].map D.str))) -> cutD ([a, n, f, s'].map D.str) (some j) none = q -> EvL K G H L0 ss (tSl (rSlL K) (tVar 0) (zmc (tC (.int j))) zhv) q := fun j q e h => by rw [<- h]; exact EvO.l (zf5 (zad e).l (zed zaq.b) ziq)
 have z32 : ∀ {L0 : Hp} {ss : List Sl}, EvB K G H L0 ss (tC (.str " ")) (.str [32]) := (zaf (l:=[32]) (by decide +kernel) (by decide)).b
 have join : ∀ {L0 : Hp} {ss : List Sl} {t : TE} (ls : List (List Nat)), EvL K G H L0 ss t (ls.map D.str) -> ls.length <= 7 -> (∀ p ∈ ls, p.length <= 20) -> Ev K G H L0 ss (tBM K "str" (znx K) (tC (.str " ")) (zbf t tNil)) (.str (glue [32] ls)) := fun ls hl h7 h20 => zfi z32 hl (by
  have := zih h20
  simp only [List.length_cons, List.length_nil]; lia)
 have p20 : ∀ p ∈ [a, n, f, s'], p.length <= 20 := fun p hp => (hpo p hp).2.2
 refine zat (zdq (d:=.str (glue [32] [a, n, f, s'])) (join _ (zad rfl).l (by simp) p20) ?_)
 ((try dsimp only); refine zbj ?_)
 have wy : ∀ {L0 : Hp} {ss : List Sl} (j : Int), ss[1]? = some (.d (.int k)) -> EvT K G H L0 ss (zlk (tOp rEq (tVar 1) (tC (.int j)))) (decide (k = j)) := fun j e => zax (zku (zad e).b zaq.b)
 have md : ∀ {L0 : Hp} {ss : List Sl} (j : Int), 0 < j -> ss[2]? = some (.d (.int d)) -> EvB K G H L0 ss (tOp (rI (fun _ j => 0 < j) fun i j => .int (i % j)) (tVar 2) (tC (.int j))) (.int (d % j)) := fun j hj e => (zd9 (zad e).b zaq.b hj).b
 have rowA : ∀ {L0 : Hp} {ss : List Sl} (z : List Nat) (x : Str), x = T z -> (∀ c ∈ z, c < 128) -> z.length <= 20 -> ss[3]? = some (.d (.str (glue [32] [a, n, f, s']))) -> Ev K G H L0 ss (tOp rCatT (tVar 3) (tC (.str x))) (.str (glue [32] [a, n, f, s'] ++ z)) := fun z x e1 e2 e3 e => zeh (zad e).b (zaf e1 e2).b (small (by lia))
 have rowB : ∀ {L0 : Hp} {ss : List Sl} (z : List Nat) (x : Str), x = T z -> (∀ c ∈ z, c < 128) -> z.length <= 20 -> ss[3]? = some (.d (.str (glue [32] [a, n, f, s']))) -> Ev K G H L0 ss (tOp rCatT (tC (.str x)) (tVar 3)) (.str (z ++ glue [32] [a, n, f, s'])) := fun z x e1 e2 e3 e => zeh (zaf e1 e2).b (zad e).b (small (by lia))
 have ok4 : ∀ {x y z u : List Nat}, (32 ∉ x /\ 10 ∉ x /\ x.length <= 20) -> (32 ∉ y /\ 10 ∉ y /\ y.length <= 20) -> (32 ∉ z /\ 10 ∉ z /\ z.length <= 20) -> (32 ∉ u /\ 10 ∉ u /\ u.length <= 20) -> ∀ p ∈ [x, y, z, u], 32 ∉ p /\ 10 ∉ p /\ p.length <= 20 := fun hx hy hz hu p hp => by
  simp only [List.mem_cons, List.not_mem_nil, or_false] at hp
  rcases hp with rfl | rfl | rfl | rfl <;> assumption
 have ret4 : ∀ {x y z u : List Nat}, (32 ∉ x /\ 10 ∉ x /\ x.length <= 20) -> (32 ∉ y /\ 10 ∉ y /\ y.length <= 20) -> (32 ∉ z /\ 10 ∉ z /\ z.length <= 20) -> (32 ∉ u /\ 10 ∉ u /\ u.length <= 20) -> prsW [x, y, z, u] = none -> RtD K G H Q (.str (glue [32] [x, y, z, u])) := fun hx hy hz hu hn => rt _ (zc4 _ (by simp) (by simp) (ok4 hx hy hz hu) rfl hn)
 have nil_ok : 32 ∉ ([] : List Nat) /\ 10 ∉ ([] : List Nat) /\ ([] : List Nat).length <= 20 := by simp
 -- no word, or one too few or too many
 refine zat (zb3 (wy 0 rfl) (fun _ => ?_) (fun _ => zaz ?_))
 ·let zs : List (List Nat) := [[], [32], forL, glue [32] [a, n, f], glue [32] [a, n, f, s'] ++ (32 :: nmL), forL ++ [32, 53]]
  obtain ⟨z, hz, _, hat⟩ := zc9 zs d (n:=6) rfl (by decide)
  refine zbq (zck (ds:=zs.map D.str) (EvO.l (zbi (ds:=[D.str [], D.str [32], D.str forL, D.str (glue [32] [a, n, f]), D.str (glue [32] [a, n, f, s'] ++ (32 :: nmL)), D.str (forL ++ [32, 53])]) (zaa (zaf (by decide +kernel) (by decide)) (zaa (zaf (by decide +kernel) (by decide)) (zaa (zaf (by decide +kernel) (by decide +kernel)) (zaa (join [a, n, f] (slT _ _ rfl rfl) (by simp) fun p hp => p20 p (by simp at hp ⊢; rcases hp with h | h | h <;> simp [h])) (zaa (rowA (32 :: nmL) _ (by decide +kernel) (by decide +kernel) (by decide +kernel) rfl) (zaa (zaf (by decide +kernel) (by decide +kernel)) zae)))))) (small (by simp)))) (md 6 (by decide) rfl) hat) (rt z ?_)
  simp only [zs, List.mem_cons, List.not_mem_nil, or_false] at hz
  have nm_ok : 32 ∉ nmL /\ 10 ∉ nmL /\ nmL.length <= 20 := by decide +kernel
  have fo_ok : 32 ∉ forL /\ 10 ∉ forL /\ forL.length <= 20 := by decide +kernel
  have f5_ok : 32 ∉ [53] /\ 10 ∉ [53] /\ [53].length <= 20 := by decide
  rcases hz with rfl | rfl | rfl | rfl | rfl | rfl
  ·exact zc4 [[]] (by simp) (by simp) (fun p hp => by rw [List.mem_singleton.mp hp]; exact nil_ok) rfl rfl
  ·exact zc4 [[], []] (by simp) (by simp) (fun p hp => by simp at hp; rw [hp]; exact nil_ok) rfl rfl
  ·exact zc4 [forL] (by simp) (by simp) (fun p hp => by rw [List.mem_singleton.mp hp]; exact fo_ok) rfl rfl
  ·exact zc4 [a, n, f] (by simp) (by simp) (fun p hp => hpo p (by simp at hp ⊢; rcases hp with h | h | h <;> simp [h])) rfl rfl
  ·refine zc4 [a, n, f, s', nmL] (by simp) (by simp) (fun p hp => ?_) (by simp [glue]) rfl
   simp only [List.mem_cons, List.not_mem_nil, or_false] at hp
   rcases hp with rfl | rfl | rfl | rfl | rfl <;> assumption
  ·refine zc4 [forL, [53]] (by simp) (by simp) (fun p hp => ?_) (by simp [glue]) rfl
   simp only [List.mem_cons, List.not_mem_nil, or_false] at hp
   rcases hp with rfl | rfl <;> assumption
 ((try dsimp only); refine zbj ?_)
 -- another first word
 refine zat (zb3 (wy 1 rfl) (fun _ => ?_) (fun _ => zaz ?_))
 ·obtain ⟨z, hz, _, hat⟩ := zc9 sp1 d (n:=6) rfl (by decide)
  have oz := znz z (by simp [hz])
  refine zbq (join [z, n, f, s'] (EvO.l (zcx (da:=[D.str z]) (db:=[D.str n, D.str f, D.str s']) (EvO.l (zbi (zaa (zck (ds:=sp1.map D.str) (EvO.l (zbi (ds:=sp1.map D.str) (zaa (zaf (by decide +kernel) (by decide +kernel)) (zaa (zaf (by decide +kernel) (by decide +kernel)) (zaa (zaf (by decide +kernel) (by decide +kernel)) (zaa (zaf (by decide +kernel) (by decide +kernel)) (zaa (zaf (by decide +kernel) (by decide +kernel)) (zaa (zaf (by decide +kernel) (by decide +kernel)) zae)))))) (small (by decide)))) (md 6 (by decide) rfl) hat) zae) (small (by simp)))) (slF _ _ rfl rfl) (small (by simp)))) (by simp) fun p hp => (ok4 oz on of' os p hp).2.2) (ret4 oz on of' os (zkb (zrp z hz)))
 ((try dsimp only); refine zbj ?_)
 -- a number that is none
 refine zat (zb3 (wy 2 rfl) (fun _ => ?_) (fun _ => zaz ?_))
 ·obtain ⟨z, hz, ez, _⟩ := zc9 (bads n) d (n:=13) rfl (by decide)
  obtain ⟨hz0, oz⟩ := hbn z hz
  have eb := zdz (K:=K) (G:=G) (H₀:=H) (L:=G) (E:=E0) (ss:=[.d (.lst ([a, n, f, s'].map D.str)), .d (.int k), .d (.int d), .d (.str (glue [32] [a, n, f, s']))]) (pre:=zrr) (res:=zr2) (zaa (ix 1 n rfl rfl) (zaa (zad (i:=2) rfl) zae)) ⟨n, d, rfl, hn20⟩
  have eb := zeo (d':=.str z) eb (by show D.str _ = _; rw [<- ez])
  refine zbq (join [a, z, f, s'] (EvO.l (zcx (da:=[D.str a, D.str z]) (db:=[D.str f, D.str s']) (EvO.l (zbi (zaa (ix 0 _ rfl rfl) (zaa eb zae)) (small (by simp)))) (slF _ _ rfl rfl) (small (by simp)))) (by simp) fun p hp => (ok4 oa oz of' os p hp).2.2) (ret4 oa oz of' os (zoc hz0))
 ((try dsimp only); refine zbj ?_)
 -- another field
 refine zat (zb3 (wy 3 rfl) (fun _ => ?_) (fun _ => zaz ?_))
 ·obtain ⟨z, hz, _, hat⟩ := zc9 sp3 d (n:=6) rfl (by decide)
  have oz := znz z (by simp [hz])
  refine zbq (join [a, n, z, s'] (EvO.l (zcx (da:=[D.str a, D.str n]) (db:=[D.str z, D.str s']) (slT _ _ rfl rfl) (EvO.l (zbi (zaa (zck (ds:=sp3.map D.str) (EvO.l (zbi (ds:=sp3.map D.str) (zaa (zaf (by decide +kernel) (by decide +kernel)) (zaa (zaf (by decide +kernel) (by decide +kernel)) (zaa (zaf (by decide +kernel) (by decide +kernel)) (zaa (zaf (by decide +kernel) (by decide +kernel)) (zaa (zaf (by decide +kernel) (by decide +kernel)) (zaa (zaf (by decide +kernel) (by decide +kernel)) zae)))))) (small (by decide)))) (md 6 (by decide) rfl) hat) (zaa (ix 3 _ rfl rfl) zae)) (small (by simp)))) (small (by simp)))) (by simp) fun p hp => (ok4 oa on oz os p hp).2.2) (ret4 oa on oz os (zn8 (zro z hz)))
 ((try dsimp only); refine zbj ?_)
 -- another sort
 refine zat (zb3 (wy 4 rfl) (fun _ => ?_) (fun _ => zaz ?_))
 ·obtain ⟨z, hz, _, hat⟩ := zc9 sp4 d (n:=6) rfl (by decide)
  have oz := znz z (by simp [hz])
  have hz4 := zr4 z hz
  refine zbq (join [a, n, f, z] (EvO.l (zcx (da:=[D.str a, D.str n, D.str f]) (db:=[D.str z]) (slT _ _ rfl rfl) (EvO.l (zbi (zaa (zck (ds:=sp4.map D.str) (EvO.l (zbi (ds:=sp4.map D.str) (zaa (zaf (by decide +kernel) (by decide +kernel)) (zaa (zaf (by decide +kernel) (by decide +kernel)) (zaa (zaf (by decide +kernel) (by decide +kernel)) (zaa (zaf (by decide +kernel) (by decide +kernel)) (zaa (zaf (by decide +kernel) (by decide +kernel)) (zaa (zaf (by decide +kernel) (by decide +kernel)) zae)))))) (small (by decide)))) (md 6 (by decide) rfl) hat) zae) (small (by simp)))) (small (by simp)))) (by simp) fun p hp => (ok4 oa on of' oz p hp).2.2) (ret4 oa on of' oz (zkg fun w => ?_))
  unfold mkR
  rw [if_neg hz4.1, if_neg hz4.2.1, if_neg hz4.2.2.1, if_neg hz4.2.2.2.1, if_neg fun x => hz4.2.2.2.2 x.1]
 ((try dsimp only); refine zbj ?_)
 -- former with another field
 refine zat (zb3 (wy 5 rfl) (fun _ => ?_) (fun _ => zaz ?_))
 ·obtain ⟨z, hz, _, hat⟩ := zc9 sp5 d (n:=4) rfl (by decide)
  have oz := znz z (by simp [hz])
  have ow : 32 ∉ zaw 4 /\ 10 ∉ zaw 4 /\ (zaw 4).length <= 20 := by decide +kernel
  refine zbq (join [a, n, z, zaw 4] (EvO.l (zcx (da:=[D.str a, D.str n]) (db:=[D.str z, D.str (zaw 4)]) (slT _ _ rfl rfl) (EvO.l (zbi (zaa (zck (ds:=sp5.map D.str) (EvO.l (zbi (ds:=sp5.map D.str) (zaa (zaf (by decide +kernel) (by decide +kernel)) (zaa (zaf (by decide +kernel) (by decide +kernel)) (zaa (zaf (by decide +kernel) (by decide +kernel)) (zaa (zaf (by decide +kernel) (by decide +kernel)) zae)))) (small (by decide)))) (md 4 (by decide) rfl) hat) (zaa (zaf (by decide +kernel) (by decide +kernel)) zae)) (small (by simp)))) (small (by simp)))) (by simp) fun p hp => (ok4 oa on oz ow p hp).2.2) (ret4 oa on oz ow (zkg fun w => ?_))
  unfold mkR
  rw [if_neg (by decide +kernel), if_neg (by decide +kernel), if_neg (by decide +kernel), if_neg (by decide +kernel), if_neg fun x => zsf z hz x.2]
 ((try dsimp only); refine zbj ?_)
 -- two blanks, a blank at an end
 refine zat (zb3 (wy 6 rfl) (fun _ => ?_) (fun _ => zaz ?_))
 ·let zs : List (List Nat) := [[32] ++ glue [32] [a, n, f, s'], glue [32] [a, n, f, s'] ++ [32], glue [32, 32] [a, n, f, s'], (a ++ [32, 32]) ++ glue [32] [n, f, s']]
  obtain ⟨z, hz, _, hat⟩ := zc9 zs d (n:=4) rfl (by decide)
  have hs3 : (glue [32] [n, f, s']).length <= 100 := by simp [glue]; lia
  refine zbq (zck (ds:=zs.map D.str) (EvO.l (zbi (ds:=[D.str ([32] ++ glue [32] [a, n, f, s']), D.str (glue [32] [a, n, f, s'] ++ [32]), D.str (glue [32, 32] [a, n, f, s']), D.str ((a ++ [32, 32]) ++ glue [32] [n, f, s'])]) (zaa (rowB [32] _ (by decide +kernel) (by decide) (by decide) rfl) (zaa (rowA [32] _ (by decide +kernel) (by decide) (by decide) rfl) (zaa (zfi (ls:=[a, n, f, s']) (zaf (l:=[32, 32]) (by decide +kernel) (by decide)).b (zad rfl).l (by simp; lia)) (zaa (zeh (zeh (ix 0 _ rfl rfl).b (zaf (l:=[32, 32]) (by decide +kernel) (by decide)).b (small (by simp; lia))).b (join [n, f, s'] (slF _ _ rfl rfl) (by simp) fun p hp => p20 p (List.mem_cons_of_mem _ hp)).b (small (by simp; lia))) zae)))) (small (by simp)))) (md 4 (by decide) rfl) hat) (rt z ?_)
  simp only [zs, List.mem_cons, List.not_mem_nil, or_false] at hz
  rcases hz with rfl | rfl | rfl | rfl
  ·refine zc4 [[], a, n, f, s'] (by simp) (by simp) (fun p hp => ?_) (by simp [glue]) rfl
   simp only [List.mem_cons, List.not_mem_nil, or_false] at hp
   rcases hp with rfl | rfl | rfl | rfl | rfl <;> assumption
  ·refine zc4 [a, n, f, s', []] (by simp) (by simp) (fun p hp => ?_) (by simp [glue]) rfl
   simp only [List.mem_cons, List.not_mem_nil, or_false] at hp
   rcases hp with rfl | rfl | rfl | rfl | rfl <;> assumption
  ·refine zc4 [a, [], n, [], f, [], s'] (by simp) (by simp) (fun p hp => ?_) (by simp [glue]) rfl
   simp only [List.mem_cons, List.not_mem_nil, or_false] at hp
   rcases hp with rfl | rfl | rfl | rfl | rfl | rfl | rfl <;> assumption
  ·refine zc4 [a, [], n, f, s'] (by simp) (by simp) (fun p hp => ?_) (by simp [glue]) rfl
   simp only [List.mem_cons, List.not_mem_nil, or_false] at hp
   rcases hp with rfl | rfl | rfl | rfl | rfl <;> assumption
 ((try dsimp only); refine zbj ?_)
 -- a # ahead
 refine zbq (rowB [35] _ (by decide +kernel) (by decide) (by decide) rfl) (rt _ (zc4 [35 :: a, n, f, s'] (by simp) (by simp) (fun p hp => ?_) (by simp [glue]) (zkb ?_)))
 ·simp only [List.mem_cons, List.not_mem_nil, or_false] at hp
  rcases hp with rfl | rfl | rfl | rfl
  ·exact ⟨by simp [oa.1], by simp [oa.2.1], by have := hla; simp; lia⟩
  all_goals assumption
 ·have h1 : forL.head? = some 102 := by decide +kernel
  have h2 : agL.head? = some 97 := by decide +kernel
  exact ⟨fun z => by have := congrArg List.head? z; rw [h1] at this; simp at this, fun z => by have := congrArg List.head? z; rw [h2] at this; simp at this⟩
noncomputable def zjz (ds : List D) : Prop := ∃ (ns : List Int) (k : Int), ds = [.lst (ns.map .int), .int k] /\ 0 <= k
noncomputable def zc0 : List D -> D
 | [.lst xs, .int k] => xs.getD k.toNat (.int 0)
 | _ => .non
theorem zga (Z : Tx K mg ad0) : FnOk P w K mg base CX0 1 ad0.f_law_cell_at ad0.d_law_cell_at ["_law_script", "_law_k"] (SpD K zjz zc0) := by
 refine Z.F_law_cell_at.ok zgp (fun vs H Q E h => zca (n:=2) (by rintro ds ⟨ns, k, rfl, _⟩; rfl) h) (fun cdv A outer s H vs Q E hr h => ⟨_, (zai (zdb (zbc zst (pv 1) (za8 zby (by rfl) Z.z_len boot_len (zab (pv 0) zag)) (zba _)) (zao (zbs (zdo (show IxR _ (rIxL K) from za6) (pv 0) (pv 1) (fun _ _ => rfl)))) zbt)
   (zao (zbs zas))), ?_⟩)
 refine zg2 h (by rw [zca (n:=2) (by rintro ds ⟨ns, k, rfl, _⟩; rfl) h]; decide) fun G ds hp rt => ?_
 obtain ⟨ns, k, rfl, hk⟩ := hp
 have ll : (ns.map D.int).length = ns.length := by simp
 refine zat (zb3 (zax (zjo (g:=fun i j => decide (i < j)) (zad rfl).b (zd2 (zad rfl).l).b)) (fun hb => ?_) (fun hb => ?_))
 ·simp only [decide_eq_true_eq] at hb
  have hk2 : k.toNat < ns.length := by lia
  refine zbq (zck (d:=.int (ns.getD k.toNat 0)) (zad rfl).l (zad rfl).b ?_) ?_
  ·have := zhz (xs:=ns.map D.int) (j:=k.toNat) (v:=D.int (ns.getD k.toNat 0)) (by rw [List.getElem?_map, List.getD_eq_getElem?_getD]; simp [hk2])
   rw [show ((k.toNat : Nat) : Int) = k by lia] at this
   exact this
  ·have e : zc0 [D.lst (ns.map D.int), D.int k] = .int (ns.getD k.toNat 0) := by
    simp [zc0, List.getD_eq_getElem?_getD, List.getElem?_map, hk2]
   rw [e] at rt; exact rt
 ·simp only [decide_eq_false_iff_not] at hb
  have e : zc0 [D.lst (ns.map D.int), D.int k] = .int 0 := by
   simp [zc0, List.getD_eq_getElem?_getD, List.getElem?_map, show ns[k.toNat]? = none from List.getElem?_eq_none (by lia)]
  rw [e] at rt
  refine zaz ?_
  ((try dsimp only); refine zbj ?_)
  exact zbq zaq rt
noncomputable def zp1 (ds : List D) : Prop := ∃ (l : List Nat) (n : Int) (b : Bool), ds = [.str l, .int n, .bl b] /\ l.length <= 5000 /\ (b = false -> prs l = none /\ n = 1) /\ (b = true -> zle [.str l] /\ zn9 [.str l] = .int n)
theorem zgn (Z : Tx K mg ad0) : FnOk P w K mg base CX0 8 ad0.f_law_refused ad0.d_law_refused ["_law_row", "_law_number", "_law_whole_here"] (SpD K zp1 fun _ => .bl true) := by
 have G_read_rules := zec (P:=P) (w:=w) (base:=base) Z
 have G_read_rule := zdk (P:=P) (w:=w) (base:=base) Z
 have G_law_whole : FnOk P w K mg base CX0 7 ad0.f_law_whole ad0.d_law_whole ["_law_found"] (SpD K (fun ds => ∃ c : Int, ds = [.int c]) fun _ => .bl true) := (zio Z).mono (by decide)
 refine Z.F_law_refused.ok zb7 (fun vs H Q E h => zca (n:=3) (by rintro ds ⟨l, n, b, rfl, _⟩; rfl) h) (fun cdv A outer s H vs Q E hr h => ⟨_, (zai (zb2 (i:=3) zb7.nd rfl (Or.inl rfl) zre)
   (zai (zoe (zds (pv 2)) G_read_rules (hr.mono (by decide)) (by rfl) Z.M_read_rules Z.F_read_rules.kp Z.B_read_rules (zab (pv 0) zag) G_read_rule (hr.mono (by decide)) (by rfl) Z.M_read_rule Z.F_read_rule.kp Z.B_read_rule (zab (pv 0) zag) (by rfl) Z.M_FolkError zb7.nd (i:=4) rfl rfl (fun _ => (zao (zb2 (i:=3) zb7.nd rfl (Or.inl rfl) (pv 4)))) ⟨rfl, rfl, rfl⟩)
   (zai (zdb (PW.pt (zj3 (zg0 (zds (za8 (show zco _ _ (zjv K) from zda) (by rfl) Z.z_isinstance boot_isinstance (zab (pv 3) (zab (zcp (v:=.ref ad0.c_NoRow) (by rfl) Z.M_NoRow rfl) zag))))) (zjl (zg0 (zds (za8 (show zco _ _ (zjv K) from zda) (by rfl) Z.z_isinstance boot_isinstance (zab (pv 3) (zab (zj6 (v:=.ty "ValueError") (by rfl) Z.z_ValueError PyProof.Rows.Boot.«ValueError» rfl) zag)))))))) (zao (zbs zij)) zbt)
   (zai (zdb (PW.pt (zj3 (zds (za8 (show zco _ _ (zjv K) from zda) (by rfl) Z.z_isinstance boot_isinstance (zab (pv 3) (zab (zcp (v:=.ref ad0.c_NoPair) (by rfl) Z.M_NoPair rfl) zag)))) (zj3 (zds (za8 (show zco _ _ (zjv K) from zda) (by rfl) Z.z_isinstance boot_isinstance (zab (pv 3) (zab (zcp (v:=.ref ad0.c_NoText) (by rfl) Z.M_NoText rfl) zag)))) (zjl (zds (za8 (show zco _ _ (zjv K) from zda) (by rfl) Z.z_isinstance boot_isinstance (zab (pv 3) (zab (zcp (v:=.ref ad0.c_NoName) (by rfl) Z.M_NoName rfl) zag)))))))) (zao (zbs zij)) zbt)
   (zao (zbs (znf (zbv G_law_whole (hr.mono (by decide)) (by rfl) Z.M_law_whole Z.F_law_whole.kp Z.B_law_whole .nil zcf (zab (zir (pv 3) (by rfl)) zag)) (zk3 (zfl zcq (zir (pv 3) (by rfl)) (pv 1) (zba _)))))))))), ?_⟩)
 refine zg2 h (by rw [zca (n:=3) (by rintro ds ⟨l, n, b, rfl, _⟩; rfl) h]; decide) fun G ds hp rt => ?_
 obtain ⟨l, n, b, rfl, hl, h1, h2⟩ := hp
 refine zat (zdq zrg ?_)
 ((try dsimp only); refine zbj ?_)
 refine zj7 (fun ss => ∃ x dx, ss = [.d (.str l), .d (.int n), .d (.bl b), xsl2 K x ad0.c_NoRow dx "row" (.int n), .un]) (fun N hN => zb3 (b:=b) (zgc (zad rfl)) (fun hb => ?_) (fun hb => ?_)) ?_
 ·obtain ⟨h3, h4⟩ := h2 hb
  exact zkr (i:=4) (j:=3) (pre:=preT) (bad:=zle) (res:=zqw ad0.c_Same ad0.c_Like ad0.c_Near ad0.c_Other ad0.c_Former) (err:=zn9) (zaa (zad rfl) zae) ⟨l, rfl, hl⟩ h3 Z.H_NoRow_FolkError (by decide) (by show 4 < 5; decide) (by show 3 < 5; decide) fun x dx => hN _ ⟨x, dx, by rw [h4]; rfl⟩
 ·obtain ⟨h3, h4⟩ := h1 hb
  subst h4
  exact zkr (i:=4) (j:=3) (pre:=preT) (bad:=znd) (res:=zma ad0.c_Same ad0.c_Like ad0.c_Near ad0.c_Other ad0.c_Former) (err:=fun _ => .int 1) (zaa (zad rfl) zae) ⟨l, rfl, hl⟩ ⟨l, rfl, h3⟩ Z.H_NoRow_FolkError (by decide) (by show 4 < 5; decide) (by show 3 < 5; decide) fun x dx => hN _ ⟨x, dx, rfl⟩
 rintro ss ⟨x, dx, rfl⟩
 refine zat (zb3 (b:=(!true || !true)) (zee (zel (zgc (zft (j:=3) rfl Z.T_NoRow (.inl ⟨_, rfl, rfl⟩) Z.I_NoRow_NoRow))) fun _ => zel (zgc (zft (j:=3) rfl Z.T_NoRow (.inr ⟨_, rfl, rfl⟩) Z.I_NoRow_ValueError))) (fun hb => by simp at hb) (fun _ => zaz ?_))
 ((try dsimp only); refine zbj ?_)
 refine zat (zb3 (b:=(false || (false || false))) (zee (zgc (zft (j:=3) rfl Z.T_NoRow (.inl ⟨_, rfl, rfl⟩) Z.I_NoRow_NoPair)) fun _ => zee (zgc (zft (j:=3) rfl Z.T_NoRow (.inl ⟨_, rfl, rfl⟩) Z.I_NoRow_NoText)) fun _ => zgc (zft (j:=3) rfl Z.T_NoRow (.inl ⟨_, rfl, rfl⟩) Z.I_NoRow_NoName)) (fun hb => by simp at hb) (fun _ => zaz ?_))
 ((try dsimp only); refine zbj ?_)
 refine zbq (d:=.bl (true && decide (n = n))) (zl2 (zdz (pre:=fun ds => ∃ c : Int, ds = [.int c]) (res:=fun _ => .bl true) (zaa (zh7 (j:=3) rfl Z.T_NoRow Z.Na_NoRow_row) zae) ⟨n, rfl⟩) fun _ => zku (zh7 (j:=3) rfl Z.T_NoRow Z.Na_NoRow_row).b (zad rfl).b) ?_
 rw [decide_eq_true rfl]; exact rt
noncomputable def zn6 (K : PySem.W.Frag) : Sp := fun vs H Q _ => ∃ (a : Addr) (ns : List Int), vs = [.ref a] /\ SqL K H a (ns.map V.int) /\ ns.length <= 63 /\ ∀ H', Q (.bl true) H'
theorem zi6 {K : PySem.W.Frag} {H : Hp} : ∀ ns : List Int, Reps K H (ns.map D.int) (ns.map V.int)
 | [] => Reps.nil
 | n :: ns => Reps.cons Rep.int (zi6 ns)
theorem zhn (ns : List Int) (k : Int) : ∃ i, zc0 [.lst (ns.map .int), .int k] = .int i := by
 show ∃ i, (ns.map D.int).getD k.toNat (.int 0) = .int i
 rw [List.getD_eq_getElem?_getD, List.getElem?_map]
 cases ns[k.toNat]? <;> exact ⟨_, rfl⟩
theorem zmi (m : List D) : cutD m (some (-6)) none = m.drop (m.length - 6) := by
 unfold L2.cutD
 have e : HT.sIx m.length 0 (some (-6)) = m.length - 6 := by
  show (if (-6 : Int) < 0 then ((-6 : Int) + (m.length : Int)).toNat else min (-6 : Int).toNat m.length) = _
  rw [if_pos (by decide)]; lia
 rw [e, show HT.sIx m.length m.length none = m.length from rfl, List.take_of_length_le (by rw [List.length_drop]; lia)]
theorem zjq {lines : List (List Nat)} (h10 : ∀ l ∈ lines, 10 ∉ l) (h0 : lines ≠ []) : splitL 10 (glue [10] lines) = lines := by
 unfold splitL
 refine zdm h0 h10 ?_
 have : ∀ qs : List (List Nat), qs.length <= (glue [10] qs).length + 1 := fun qs => by
  induction qs with
  | nil => simp
  | cons a r ih =>
   cases r with
   | nil => simp
   | cons b r => simp only [glue, List.length_append, List.length_cons, List.length_nil] at ih ⊢; lia
 have := this lines
 lia
theorem zgu {lines : List (List Nat)} (h10 : ∀ l ∈ lines, 10 ∉ l) (h0 : lines ≠ []) : zcg (glue [10] lines) = (List.range lines.length).filter (fun i => !zcr (lines.getD i [])) /\ ∀ i, lnAt (glue [10] lines) i = lines.getD i [] := by
 have hs := zjq h10 h0
 have hl : ∀ i, lnAt (glue [10] lines) i = lines.getD i [] := fun i => by unfold lnAt; rw [hs]
 refine ⟨?_, hl⟩
 unfold zcg
 rw [hs]
 congr 1
 funext i
 rw [hl]
theorem zn0 {lines : List (List Nat)} {at_ : Nat} (h10 : ∀ l ∈ lines, 10 ∉ l) (hlt : at_ < lines.length) (hp : zcr (lines.getD at_ []) = false) (hb : prs (lines.getD at_ []) = none) (hg : ∀ i, i < at_ -> zcr (lines.getD i []) = true \/ prs (lines.getD i []) ≠ none) :
  zle [.str (glue [10] lines)] /\ zn9 [.str (glue [10] lines)] = .int ((at_ + 1 : Nat) : Int) := by
 have h0 : lines ≠ [] := fun z => by rw [z] at hlt; cases hlt
 obtain ⟨h1, h2⟩ := zgu h10 h0
 have hf : (zcg (glue [10] lines)).find? (fun i => (prs (lnAt (glue [10] lines) i)).isNone) = some at_ := by
  rw [h1, List.find?_filter, List.find?_range_eq_some]
  refine ⟨?_, List.mem_range.mpr hlt, fun j hj => ?_⟩
  ·rw [h2, hp, hb]; rfl
  ·rw [h2]
   rcases hg j hj with h | h
   ·rw [h]; rfl
   ·cases e : prs (lines.getD j []) with
    | none => exact absurd e h
    | some x => simp
 refine ⟨⟨_, rfl, at_, ?_, by rw [h2]; exact hb⟩, ?_⟩
 ·exact List.mem_of_find?_eq_some hf
 ·show D.int ((frsB (glue [10] lines) + 1 : Nat) : Int) = _
  unfold frsB
  rw [hf]; rfl
theorem zl1 {lines : List (List Nat)} (h10 : ∀ l ∈ lines, 10 ∉ l) (h0 : lines ≠ []) (hg : ∀ l ∈ lines, zcr l = true \/ prs l ≠ none) :
  ¬ zle [.str (glue [10] lines)] /\ (zcg (glue [10] lines)).length = (lines.filter fun l => !zcr l).length := by
 obtain ⟨h1, h2⟩ := zgu h10 h0
 refine ⟨?_, ?_⟩
 ·rintro ⟨tx, e, i, hi, hn⟩
  cases e
  rw [h1] at hi
  obtain ⟨hr, hp⟩ := List.mem_filter.mp hi
  have hlt := List.mem_range.mp hr
  have hm : lines.getD i [] ∈ lines := by rw [List.getD_eq_getElem?_getD, List.getElem?_eq_getElem hlt]; exact List.getElem_mem hlt
  rw [h2] at hn
  rcases hg _ hm with h | h
  ·rw [h] at hp; cases hp
  ·exact h hn
 ·have := congrArg List.length (zhj lines [] (fun l => !zcr l) id)
  rw [List.length_map, List.length_map] at this
  rw [h1]; exact this
theorem zsy {r : Rl} (h : ruOk r) : fEf r = r.2.1 := by
 unfold fEf
 split
 ·rfl
 ·obtain ⟨h5, _, h4⟩ := h
  exact (h4 (by lia)).symm
noncomputable def lnD (p : Ln) : D := .str p.1
theorem zpi {r : Rl} (h : RuOk r) : LnOk (rowL r, some r) := by
 refine ⟨fun z => ?_, by have := zka h; show (rowL r).length <= 100; lia, rfl, h⟩
 have z : 10 ∈ glue [32] (rowW r) := z
 rcases zhy z with z | ⟨l, h1, z⟩
 ·simp at z
 ·exact (zj4 h l h1).2.1 z
noncomputable def LsOk (ls : List Ln) : Prop := ∀ p ∈ ls, LnOk p /\ (p.2 = none -> p.1 = [32, 32])
theorem zsb {ls : List Ln} (h : LsOk ls) : ∀ l ∈ ls.map (·.1), 10 ∉ l /\ l.length <= 100 /\ (zcr l = true \/ prs l ≠ none) := by
 intro l hl
 obtain ⟨p, hp, rfl⟩ := List.mem_map.mp hl
 obtain ⟨⟨h1, h2, h3⟩, _⟩ := h p hp
 refine ⟨h1, h2, ?_⟩
 cases e : p.2 with
 | none => rw [e] at h3; exact .inl h3
 | some r =>
  rw [e] at h3
  have h3 : p.1 = rowL r /\ RuOk r := h3
  right
  rw [h3.1, zj2 h3.2]
  intro z; cases z
theorem zoi {ls : List Ln} (h : LsOk ls) : ((ls.map (·.1)).filter fun l => !zcr l) = (ls.map (·.1)).filter fun l => !decide (l = [32, 32]) := by
 refine List.filter_congr fun l hl => ?_
 obtain ⟨p, hp, rfl⟩ := List.mem_map.mp hl
 obtain ⟨⟨_, _, h3⟩, h4⟩ := h p hp
 cases e : p.2 with
 | none =>
  rw [h4 e]; decide +kernel
 | some r =>
  rw [e] at h3
  have h3 : p.1 = rowL r /\ RuOk r := h3
  rw [h3.1, zn2]
  obtain ⟨c, t, e1, hc⟩ := zkc r
  rw [e1, decide_eq_false (fun z => by injection z with z _; lia)]
theorem LsOk.app {a b : List Ln} (h : LsOk a) (g : LsOk b) : LsOk (a ++ b) := fun p hp => by
 rcases List.mem_append.mp hp with h1 | h1
 ·exact h p h1
 ·exact g p h1
theorem zj8 {l : List Nat} (h1 : zcm [32].contains l ≠ []) (h2 : l.head? ≠ some 35) : zcr l = false := by
 unfold zcr
 rw [decide_eq_false h1, decide_eq_false h2]; rfl
theorem zm1 : zcm [32].contains ([] : List Nat) = [] := rfl
theorem zh9 (a : List (List Nat)) (x : List Nat) (b : List (List Nat)) : (a ++ [x] ++ b).getD a.length [] = x := by
 rw [List.getD_eq_getElem?_getD, List.append_assoc, List.getElem?_append_right (Nat.le_refl _), Nat.sub_self]; rfl
theorem zh2 (a : List (List Nat)) (x : List Nat) (b : List (List Nat)) (i : Nat) (h : i < a.length) : (a ++ [x] ++ b).getD i [] ∈ a := by
 rw [List.getD_eq_getElem?_getD, List.append_assoc, List.getElem?_append_left h, List.getElem?_eq_getElem h]; exact List.getElem_mem h
theorem zsc (Z : Tx K mg ad0) : FnOk P w K mg base CX0 21 ad0.f_law ad0.d_law ["_law_script"] (zn6 K) := by
 have G_law_cell_at := zga (P:=P) (w:=w) (base:=base) Z
 have G_law_words := zh8 (P:=P) (w:=w) (base:=base) Z
 have G_law_spoiled := zgk (P:=P) (w:=w) (base:=base) Z
 have G_law_refused := zgn (P:=P) (w:=w) (base:=base) Z
 have G_read_rule := zdk (P:=P) (w:=w) (base:=base) Z
 have G_read_rules := zec (P:=P) (w:=w) (base:=base) Z
 refine Z.F_law.ok zd8 (fun vs H Q E h => by obtain ⟨a, ns, rfl, _⟩ := h; rfl) (fun cdv A outer s H vs Q E hr h => ⟨_, (zai (zb2 (i:=1) zd8.nd rfl (Or.inl rfl) (zdt zag))
   (zai (zry PassesOwn.never rfl (zlz (c:=3) (by decide) (by decide) (by rfl) Z.z_range (zab zas (zab (za8 (zmn rfl) (by rfl) Z.z_max boot_max (zab zas (zab (za8 (zmo rfl) (by rfl) Z.z_min boot_min (zab (za8 zby (by rfl) Z.z_len boot_len (zab (pv 0) zag)) (zab zas zag))) zag))) (zab zas zag)))) (zdx (i:=2) zd8.nd rfl (Or.inl rfl)) (zai (zb2 (i:=3) zd8.nd rfl (Or.inl rfl) (zbv G_law_words (hr.mono (by decide)) (by rfl) Z.M_law_words Z.F_law_words.kp Z.B_law_words .nil zcf (zab (zbv G_law_cell_at (hr.mono (by decide)) (by rfl) Z.M_law_cell_at Z.F_law_cell_at.kp Z.B_law_cell_at .nil zcf (zab (pv 0) (zab (pv 2) zag))) zag)))
   (zai (zb2 (i:=4) zd8.nd rfl (Or.inl rfl) (zbv G_law_cell_at (hr.mono (by decide)) (by rfl) Z.M_law_cell_at Z.F_law_cell_at.kp Z.B_law_cell_at .nil zcf (zab (pv 0) (zab (zb1 zi1 (pv 2) zas) zag))))
   (zai (zb2 (i:=5) zd8.nd rfl (Or.inl rfl) (zbv G_law_spoiled (hr.mono (by decide)) (by rfl) Z.M_law_spoiled Z.F_law_spoiled.kp Z.B_law_spoiled .nil zcf (zab (pv 3) (zab (zb1 zcj (pv 4) zas) (zab (zb1 zfs (pv 4) zas) zag)))))
   (zai (zdb (zg0 (zds (zbv G_law_refused (hr.mono (by decide)) (by rfl) Z.M_law_refused Z.F_law_refused.kp Z.B_law_refused .nil zcf (zab (pv 5) (zab zas (zab zij zag)))))) (zao (zbs zij)) zbt)
   (zai (zdb (zbc zmu (zr7 (zbv G_read_rule (hr.mono (by decide)) (by rfl) Z.M_read_rule Z.F_read_rule.kp Z.B_read_rule .nil zpe (zab (ze2 F.plainAttrs_str F.slot_str_join F.type_str_join zb5 zal (zab (pv 3) zag)) zag)) (by rfl)) (zdo (show IxR _ (rIxL K) from za6) (pv 3) zas (fun _ _ => rfl)) (zba _)) (zao (zbs zij)) zbt)
   (zai (zfw (ze2 F.plainAttrs_list F.slot_list_append F.type_list_append zd6 (pv 1) (zab (ze2 F.plainAttrs_str F.slot_str_join F.type_str_join zb5 zal (zab (pv 3) zag)) zag)))
   (zai (zdb (zbc zcq (zb1 zcj (zb1 zfs (pv 4) zas) zas) zas (zba _)) (zao (zfw (ze2 F.plainAttrs_list F.slot_list_append F.type_list_append zd6 (pv 1) (zab zal zag)))) zbt)
   (zai (zb2 (i:=6) zd8.nd rfl (Or.inl rfl) (zfd zcn (pv 1) (zhr (zrd zo4 zas)) zcs))
   (zai (zb2 (i:=7) zd8.nd rfl (Or.inl rfl) (zb1 zcj (zbv G_law_cell_at (hr.mono (by decide)) (by rfl) Z.M_law_cell_at Z.F_law_cell_at.kp Z.B_law_cell_at .nil zcf (zab (pv 0) (zab (zb1 zi1 (pv 2) zas) zag))) (zb1 zi1 (za8 zby (by rfl) Z.z_len boot_len (zab (pv 6) zag)) zas)))
   (zai (zb2 (i:=6) zd8.nd rfl (Or.inl rfl) (zb1 (show OpR _ _ (zfh K) from zcw) (zb1 (show OpR _ _ (zfh K) from zcw) (zb1 (show OpR _ _ (zfh K) from zcw) (zfd zcn (pv 6) zcs (zhr (pv 7))) (zdt (zab (pv 5) zag))) (zfd zcn (pv 6) (zhr (pv 7)) zcs)) (zdt (zab zal zag))))
   (zao (zdb (PW.pt (znr (zbc zmu (ze2 F.plainAttrs_str F.slot_str_strip F.type_str_strip zji (pv 5) (zab zal zag)) zal (zba _)) (znr (zbc zmu (zdo zo1 (pv 5) zas (fun _ _ => rfl)) zal (zba _)) (znp (zg0 (zds (zbv G_law_refused (hr.mono (by decide)) (by rfl) Z.M_law_refused Z.F_law_refused.kp Z.B_law_refused .nil zcf (zab (ze2 F.plainAttrs_str F.slot_str_join F.type_str_join zb5 zal (zab (pv 6) zag)) (zab (zb1 zi1 (pv 7) zas) (zab zij zag)))))))))) (zao (zbs zij)) zbt)))))))))))))
   (zao (zbs (zfl zcq (za8 zby (by rfl) Z.z_len boot_len (zab (zbv G_read_rules (hr.mono (by decide)) (by rfl) Z.M_read_rules Z.F_read_rules.kp Z.B_read_rules .nil zpe (zab (ze2 F.plainAttrs_str F.slot_str_join F.type_str_join zb5 zal (zab (pv 1) zag)) zag)) zag)) (za8 zby (by rfl) Z.z_len boot_len (zab (zqy rfl (LcOk.of (Nx:=(["_law_script", "_law_rows", "_law_k", "_law_words_here", "_law_cell", "_law_bad", "_law_some", "_law_at"] : List Str)) (sc:=zac zgi) (N':=(["_law_row"] : List Str)) (nt:=1) (cs:=[]) rfl rfl (by decide +kernel)) (zmp (pv 1)) (fun _ _ _ _ => (zdx (i:=0) (show List.Nodup (["_law_row"] : List Str) by decide +kernel) rfl (Or.inl rfl))) (fun _ _ _ _ => (zkv (zbc zmu (pv 0) zal (zba _)))) (fun _ _ _ _ => (pv 0))) zag)) (zba _)))))), ?_⟩)
 obtain ⟨a, ns, rfl, sq, hl, hQ⟩ := h
 have r : Reps K H [.lst (ns.map .int)] [.ref a] := Reps.cons (Rep.lst sq (zi6 ns)) Reps.nil
 have rt : RtD K H H Q (.bl true) := fun v F H' e r => by rw [r.of_bl]; exact hQ H'
 refine (?_ : Go K H H H _ (slots 8 [.lst (ns.map .int)]) _) H H _ (zcu (Same.refl H) r (by simp))
 generalize hN0 : (if (if (60 : Int) < ((ns.map D.int).length : Int) then (60 : Int) else ((ns.map D.int).length : Int)) > 1 then (if (60 : Int) < ((ns.map D.int).length : Int) then (60 : Int) else ((ns.map D.int).length : Int)) else 1) = n0
 have hn0 : 0 < n0 /\ n0 <= 60 := by
  rw [<- hN0]; rw [List.length_map]; split <;> split <;> lia
 have hcell : ∀ {L0 : Hp} {ss : List Sl} {tk : TE} {k : Int} {EX : XK}, ss[0]? = some (.d (.lst (ns.map .int))) -> Ev K H H L0 ss tk (.int k) -> 0 <= k -> Ev K H H L0 ss (zex (SpD K zjz zc0) [] EX (zbf (tVar 0) (zbf tk tNil))) (zc0 [.lst (ns.map .int), .int k]) := fun {L0 ss tk k EX} hs hk h0 =>
  zdz (pre:=zjz) (res:=zc0) (zaa (zad hs) (zaa hk zae)) ⟨ns, k, rfl, h0⟩
 have mono : ∀ {m : Nat}, m <= 1000 -> m < sizeLine := fun h => by rw [sizeLine_eq]; lia
 have z10 : ∀ {L0 : Hp} {ss : List Sl}, EvB K H H L0 ss (tC (.str "\n")) (.str [10]) := (zaf (l:=[10]) (by decide +kernel) (by decide)).b
 have z32 : ∀ {L0 : Hp} {ss : List Sl}, EvB K H H L0 ss (tC (.str " ")) (.str [32]) := (zaf (l:=[32]) (by decide +kernel) (by decide)).b
 refine zat (zej (ds:=[]) (zbi zae (small (by decide))) fun pr => ?_)
 ((try dsimp only); refine zbj ?_)
 refine zat (znn (m:=0) (n:=n0) (c:=3) (fun k ss => ∃ (ls : List Ln) (v2 v3 v4 v5 v6 v7 : Sl), ss = [.d (.lst (ns.map .int)), .o pr (ls.map lnD), v2, v3, v4, v5, v6, v7] /\ ls.length <= 2 * k /\ (0 < k -> ls ≠ []) /\ LsOk ls) (zhm zaq.b (zhm (by rw [<- hN0]; exact (zqq zaq.b (zpt (zd2 (zad rfl).l).b zaq.b).b).b) (zhm zaq.b zpr))) ⟨by decide, by decide, by lia, by lia⟩ ⟨[], .un, .un, .un, .un, .un, .un, rfl, Nat.le_refl _, fun h => absurd h (Nat.lt_irrefl 0), fun p hp => by cases hp⟩ ?_ ?_)
 ·rintro k ss hk ⟨ls, v2, v3, v4, v5, v6, v7, rfl, hll, hne, hok⟩ N hN
  have hk20 : k < 20 := by
   unfold Builtin.Range.rangeSize at hk
   rw [if_pos (by decide), if_pos hn0.1] at hk
   lia
  have hk0 : (0 : Int) <= 0 + (k : Int) * 3 := by lia
  generalize (0 : Int) + (k : Int) * 3 = q at hk0
  obtain ⟨c1, e1⟩ := zhn ns q
  obtain ⟨c2, e2⟩ := zhn ns (q + 1)
  obtain ⟨c3, e3⟩ := zhn ns (q + 2)
  refine zat (zp0 (i:=3) (pre:=zrh) (R:=zrc) (ds:=[.int c1]) (zaa (by rw [<- e1]; exact hcell rfl (zad rfl) hk0) zae) ⟨c1, rfl⟩ fun rs hR pw => zcd (i:=3) rfl ?_)
  obtain ⟨x, hx, rfl⟩ := hR
  ((try dsimp only); refine zbj ?_)
  refine zat (zdq (d:=.int c2) (by rw [<- e2]; exact hcell rfl (zi2 (zad rfl).b zaq.b) (by lia)) ?_)
  ((try dsimp only); refine zbj ?_)
  refine zat (zop (pre:=zr6) (R:=zr0) (ds:=[.lst ((rowW x).map D.str), .int (c2 % 8), .int (c2 / 8)]) (zaa (zad rfl) (zaa (zd9 (zad rfl).b zaq.b (by decide)) (zaa (zff (zad rfl).b zaq.b ⟨by decide, by decide⟩) zae))) ⟨x, _, _, rfl, hx⟩ fun d hd => ?_)
  obtain ⟨b, rfl, hB⟩ := hd
  refine ⟨_, zce, ?_⟩
  ((try dsimp only); refine zbj ?_)
  obtain ⟨hb1, hb2, hb3⟩ := zpv hB
  refine zat (zb3 (b:=false) (zel (zgc (zdz (pre:=zp1) (res:=fun _ => .bl true) (zaa (zad rfl) (zaa zaq (zaa zom zae))) ⟨b, 1, false, rfl, by lia, fun _ => ⟨hb1, rfl⟩, fun z => by cases z⟩))) (fun z => by cases z) (fun _ => zaz ?_))
  ((try dsimp only); refine zbj ?_)
  have hp20 : ∀ p ∈ rowW x, p.length <= 20 := fun p hp => (zj4 hx p hp).2.2
  have hjs := zih hp20
  have hr4 : (rowW x).length = 4 := rfl
  have hrl := zka hx
  have jn : ∀ {L0 : Hp} {ss : List Sl}, ss[3]? = some (.d (.lst ((rowW x).map D.str))) -> Ev K H H L0 ss (tBM K "str" (znx K) (tC (.str " ")) (zbf (tVar 3) tNil)) (.str (rowL x)) := fun e => zfi (ls:=rowW x) z32 (zad e).l (by rw [hr4] at hjs ⊢; simp only [List.length_cons, List.length_nil]; lia)
  obtain ⟨cl1, cl2, cl3⟩ := zrj Z x.1
  have rr : ∀ {L0 : Hp} {ss : List Sl} {EX : XK}, ss[3]? = some (.d (.lst ((rowW x).map D.str))) -> Ev K H H L0 ss (zex (SpX K ad0.c_NoRow "row" preT znd (zma ad0.c_Same ad0.c_Like ad0.c_Near ad0.c_Other ad0.c_Former) fun _ => .int 1) [] EX (zbf (tBM K "str" (znx K) (tC (.str " ")) (zbf (tVar 3) tNil)) tNil)) (insR ad0.c_Same ad0.c_Like ad0.c_Near ad0.c_Other ad0.c_Former x) := fun {L0 ss EX} e => by
   have h := zdf (K:=K) (G:=H) (H₀:=H) (L:=L0) (ss:=ss) (E:=EX) (C:=ad0.c_NoRow) (f:="row") (pre:=preT) (bad:=znd) (res:=zma ad0.c_Same ad0.c_Like ad0.c_Near ad0.c_Other ad0.c_Former) (err:=fun _ => .int 1) (zaa (jn e) zae) ⟨_, rfl, by lia⟩ (by rintro ⟨m, e1, e2⟩; cases e1; rw [zj2 hx] at e2; cases e2)
   exact zeo h (by show optR _ _ _ _ _ (prs (rowL x)) = _; rw [zj2 hx]; rfl)
  refine zat (zb3 (b:=!decide (x.2.1 = x.2.1)) (zax (zfx (Ev.b (by rw [<- zsy hx.1]; exact zp2 (rr rfl) cl1 cl3 (.inr ⟨by decide +kernel, rfl, rfl⟩))) (zck (d:=.str x.2.1) (zad rfl).l zaq.b rfl).b)) (fun z => by rw [decide_eq_true rfl] at z; cases z) (fun _ => zaz ?_))
  ((try dsimp only); refine zbj ?_)
  refine zat (zjk (d:=lnD (rowL x, some x)) rfl (jn rfl) (mono (by rw [List.length_map]; lia)) ?_)
  ((try dsimp only); refine zbj ?_)
  have hln : LsOk [(rowL x, some x)] := fun p hp => by rw [List.mem_singleton.mp hp]; exact ⟨zpi hx, fun z => by cases z⟩
  have hbl : LsOk [([32, 32], none)] := fun p hp => by rw [List.mem_singleton.mp hp]; exact ⟨⟨by decide, by decide, by show zcr [32, 32] = true; decide +kernel⟩, fun _ => rfl⟩
  refine zat (zj7 (fun ss => ∃ ms : List Ln, ss = [.d (.lst (ns.map .int)), .o pr (ms.map lnD), .d (.int q), .d (.lst ((rowW x).map D.str)), .d (.int c2), .d (.str b), v6, v7] /\ ms.length <= 2 * (k + 1) /\ ms ≠ [] /\ LsOk ms) (fun N2 hN2 => zb3 (zax (zku (zd9 (zff (zad rfl).b zaq.b ⟨by decide, by decide⟩).b zaq.b (by decide)).b zaq.b)) (fun hb => ?_) (fun hb => ?_)) ?_)
  ·refine zjk (d:=lnD ([32, 32], none)) rfl (zaf (by decide +kernel) (by decide)) (mono (by simp; lia)) (hN2 _ ⟨(ls ++ [(rowL x, some x)]) ++ [([32, 32], none)], by rw [List.map_append, List.map_append]; rfl, by simp; lia, by simp, (hok.app hln).app hbl⟩)
  ·exact zaz (hN2 _ ⟨ls ++ [(rowL x, some x)], by rw [List.map_append]; rfl, by simp; lia, by simp, hok.app hln⟩)
  rintro ss ⟨ms, rfl, hml, hmne, hmok⟩
  refine zaz ?_
  ((try dsimp only); refine zbj ?_)
  obtain ⟨ws, hws⟩ : ∃ ws : List Ln, ms.drop (ms.length - 6) = ws := ⟨_, rfl⟩
  have hwl : ws.length <= 6 := by rw [<- hws, List.length_drop]; omega
  have hwok : LsOk ws := fun p hp => hmok p (List.mem_of_mem_drop (by rw [hws]; exact hp))
  have ecut : cutD (ms.map lnD) (some (-6)) none = ws.map lnD := by rw [zmi, List.length_map, <- List.map_drop, hws]
  refine zat (zej (ds:=ws.map lnD) (by rw [<- ecut]; exact zf5 (zq0 rfl) (zed (zo8 zaq.b).b) ziq) fun ps => zcd (i:=6) rfl ?_)
  ((try dsimp only); refine zbj ?_)
  have hwlm : (((ws.map lnD).length : Int) + 1) = (ws.length : Int) + 1 := by rw [List.length_map]
  obtain ⟨at_, hat⟩ : ∃ at_ : Nat, c3 % ((ws.length : Int) + 1) = (at_ : Int) := ⟨(c3 % ((ws.length : Int) + 1)).toNat, by have := Int.emod_nonneg c3 (show ((ws.length : Int) + 1) ≠ 0 by lia); lia⟩
  have hatl : at_ <= ws.length := by have := Int.emod_lt_of_pos c3 (show (0 : Int) < (ws.length : Int) + 1 by lia); lia
  refine zat (zdq (d:=.int (at_ : Int)) (by
   rw [<- hat, <- hwlm]
   exact zd9 (Ev.b (by rw [<- e3]; exact hcell rfl (zi2 (zad rfl).b zaq.b) (by lia))) (zi2 (zd2 (zad rfl).l).b zaq.b).b (by rw [List.length_map]; lia)) ?_)
  ((try dsimp only); refine zbj ?_)
  obtain ⟨lns, hlns⟩ : ∃ lns : List (List Nat), ((ws.take at_).map (·.1) ++ [b]) ++ ((ws.drop at_).map (·.1) ++ [forL]) = lns := ⟨_, rfl⟩
  have et : cutD (ws.map lnD) none (some (at_ : Int)) = ((ws.take at_).map (·.1)).map D.str := by rw [zqd _ (by lia), <- List.map_take, List.map_map]; rfl
  have ed : cutD (ws.map lnD) (some (at_ : Int)) none = ((ws.drop at_).map (·.1)).map D.str := by rw [zmb _ (by lia), <- List.map_drop, List.map_map]; rfl
  have htl : ((ws.take at_).map (·.1)).length = at_ := by rw [List.length_map, List.length_take]; lia
  have hdl : ((ws.drop at_).map (·.1)).length = ws.length - at_ := by rw [List.length_map, List.length_drop]
  refine zat (zej (ds:=lns.map D.str) (by
   have e : lns.map D.str = ((((ws.take at_).map (·.1)).map D.str ++ [D.str b]) ++ ((ws.drop at_).map (·.1)).map D.str) ++ [D.str forL] := by rw [<- hlns]; simp
   rw [e]
   exact zcx (EvO.l (zcx (EvO.l (zcx (by rw [<- et]; exact EvO.l (zf5 (zad rfl).l ziq (zed (zad rfl).b))) (EvO.l (zbi (zaa (zad rfl) zae) (small (by simp)))) (small (by rw [List.length_map, htl]; simp; lia)))) (by rw [<- ed]; exact EvO.l (zf5 (zad rfl).l (zed (zad rfl).b) ziq)) (small (by rw [List.length_append, List.length_map, htl, List.length_map, hdl]; simp; lia)))) (EvO.l (zbi (zaa (zaf (by decide +kernel) (by decide +kernel)) zae) (small (by simp)))) (small (by rw [List.length_append, List.length_append, List.length_map, htl, List.length_map, hdl]; simp; lia))) fun ps2 => zcd (i:=6) rfl ?_)
  ((try dsimp only); refine zbj ?_)
  have w10 := zsb hwok
  have hmem : ∀ l ∈ lns, 10 ∉ l /\ l.length <= 200 := by
   intro l hl
   rw [<- hlns] at hl
   rcases List.mem_append.mp hl with h | h
   ·rcases List.mem_append.mp h with h | h
    ·obtain ⟨p, hp, rfl⟩ := List.mem_map.mp h
     have := w10 p.1 (List.mem_map.mpr ⟨p, List.mem_of_mem_take hp, rfl⟩)
     exact ⟨this.1, by lia⟩
    ·rw [List.mem_singleton.mp h]; exact ⟨hb2, hb3⟩
   ·rcases List.mem_append.mp h with h | h
    ·obtain ⟨p, hp, rfl⟩ := List.mem_map.mp h
     have := w10 p.1 (List.mem_map.mpr ⟨p, List.mem_of_mem_drop hp, rfl⟩)
     exact ⟨this.1, by lia⟩
    ·rw [List.mem_singleton.mp h]; decide +kernel
  have hlnl : lns.length <= 8 := by rw [<- hlns]; simp only [List.length_append, htl, hdl, List.length_cons, List.length_nil]; lia
  have hls := zih fun l hl => (hmem l hl).2
  have hgl := ze5 [10] lns
  simp only [List.length_cons, List.length_nil] at hgl
  have hat2 : lns.getD at_ [] = b := by
   have := zh9 ((ws.take at_).map (·.1)) b ((ws.drop at_).map (·.1) ++ [forL])
   rw [htl, hlns] at this; exact this
  have hatlt : at_ < lns.length := by rw [<- hlns]; simp only [List.length_append, htl, hdl, List.length_cons, List.length_nil]; lia
  have hleft : ∀ i, i < at_ -> zcr (lns.getD i []) = true \/ prs (lns.getD i []) ≠ none := fun i hi => by
   have := zh2 ((ws.take at_).map (·.1)) b ((ws.drop at_).map (·.1) ++ [forL]) i (by rw [htl]; exact hi)
   rw [hlns] at this
   obtain ⟨p, hp, e⟩ := List.mem_map.mp this
   rw [<- e]
   exact (w10 p.1 (List.mem_map.mpr ⟨p, List.mem_of_mem_take hp, rfl⟩)).2.2
  have fin : ∀ v6 v7 : Sl, Nx K H H H N [.d (.lst (ns.map .int)), .o pr (ms.map lnD), .d (.int q), .d (.lst ((rowW x).map D.str)), .d (.int c2), .d (.str b), v6, v7] := fun v6 v7 => hN _ ⟨ms, _, _, _, _, v6, v7, rfl, hml, fun _ => hmne, hmok⟩
  by_cases hs : zcm [32].contains b = []
  ·refine zb3 (b:=(!decide (zcm [32].contains b = []) && false)) (zep (zax (zfx (zfa (zad rfl).b z32 (mid (by lia))).b (zaf (l:=[]) (by decide +kernel) (by decide)).b)) fun z => absurd z (by rw [decide_eq_true hs]; decide)) (fun z => by rw [decide_eq_true hs] at z; cases z) (fun _ => zaz (fin _ _))
  ·obtain ⟨ch, bt, rfl⟩ : ∃ ch bt, b = ch :: bt := by
    cases b with
    | nil => exact absurd zm1 hs
    | cons ch bt => exact ⟨ch, bt, rfl⟩
   have hix : atI (ch :: bt) 0 = some ch := zhz (xs:=ch :: bt) (j:=0) rfl
   by_cases hc : ch = 35
   ·refine zb3 (b:=(!decide (zcm [32].contains (ch :: bt) = []) && (!decide ([ch] = [35]) && false))) (zep (zax (zfx (zfa (zad rfl).b z32 (mid (by lia))).b (zaf (l:=[]) (by decide +kernel) (by decide)).b)) fun _ => zep (zax (zfx (zms (zad rfl).b zaq.b (mid (by lia)) hix).b (zaf (l:=[35]) (by decide +kernel) (by decide)).b)) fun z => absurd z (by rw [hc]; decide)) (fun z => by rw [hc] at z; simp at z) (fun _ => zaz (fin _ _))
   ·have hpb : zcr (ch :: bt) = false := zj8 hs (by simpa using hc)
    obtain ⟨t1, t2⟩ := zn0 (lines:=lns) (at_:=at_) (fun l hl => (hmem l hl).1) hatlt (by rw [hat2]; exact hpb) (by rw [hat2]; exact hb1) hleft
    refine zb3 (b:=(!decide (zcm [32].contains (ch :: bt) = []) && (!decide ([ch] = [35]) && !true))) (zep (zax (zfx (zfa (zad rfl).b z32 (mid (by lia))).b (zaf (l:=[]) (by decide +kernel) (by decide)).b)) fun _ => zep (zax (zfx (zms (zad rfl).b zaq.b (mid (by lia)) hix).b (zaf (l:=[35]) (by decide +kernel) (by decide)).b)) fun _ => zel (zgc (zdz (pre:=zp1) (res:=fun _ => .bl true) (ds:=[.str (glue [10] lns), .int ((at_ : Int) + 1), .bl true]) (zaa (zfi (ls:=lns) z10 (zad rfl).l (by simp only [List.length_cons, List.length_nil]; lia)) (zaa (zi2 (zad rfl).b zaq.b) (zaa zom zae))) ⟨_, _, true, rfl, by lia, (fun z => by cases z), fun _ => ⟨t1, by rw [t2]; congr 1⟩⟩))) (fun z => by simp at z) (fun _ => zaz (fin _ _))
 rintro ss ⟨ls, v2, v3, v4, v5, v6, v7, rfl, hll, hne, hok⟩
 refine zcd (i:=1) rfl ?_
 ((try dsimp only); refine zbj ?_)
 have hrs : (Builtin.Range.rangeSize 0 n0 3).toNat <= 20 /\ 0 < (Builtin.Range.rangeSize 0 n0 3).toNat := by
  unfold Builtin.Range.rangeSize
  rw [if_pos (by decide), if_pos hn0.1]
  omega
 have hne := hne hrs.2
 have hl40 : ls.length <= 40 := by lia
 have w10 := zsb hok
 have hls := zih fun l hl => (w10 l hl).2.1
 have hgl := ze5 [10] (ls.map (·.1))
 rw [List.length_map] at hls hgl
 simp only [List.length_cons, List.length_nil] at hgl
 obtain ⟨g1, g2⟩ := zl1 (lines:=ls.map (·.1)) (fun l hl => (w10 l hl).1) (by simpa using hne) fun l hl => (w10 l hl).2.2
 have hcnt := zoi hok
 have el : ls.map lnD = (ls.map (·.1)).map D.str := by rw [List.map_map]; rfl
 refine zbq (d:=.bl (decide ((((zcg (glue [10] (ls.map (·.1)))).map fun i => optR ad0.c_Same ad0.c_Like ad0.c_Near ad0.c_Other ad0.c_Former (prs (lnAt (glue [10] (ls.map (·.1))) i))).length : Int) = ((((ls.map (·.1)).filter fun l => !decide (l = [32, 32])).map D.str).length : Int)))) (zku (zd2 (Ev.l (zdf (pre:=preT) (bad:=zle) (res:=zqw ad0.c_Same ad0.c_Like ad0.c_Near ad0.c_Other ad0.c_Former) (ds:=[.str (glue [10] (ls.map (·.1)))]) (zaa (zfi (ls:=ls.map (·.1)) z10 (by rw [<- el]; exact (zad rfl).l) (by rw [List.length_map (f:=fun p : Ln => p.1)]; simp only [List.length_cons, List.length_nil]; lia)) zae) ⟨_, rfl, by lia⟩ g1))).b (zd2 (EvO.l (znu (ls.map (·.1)) D.str (fun l => !decide (l = [32, 32])) D.str (by rw [<- el]; exact (zad rfl).l) (zdh (by decide)) (by decide) (by rw [List.length_map, sizeLine_eq]; omega) fun l hl => ⟨_, zce, zax (zfx (zad rfl).b (zaf (l:=[32, 32]) (by decide +kernel) (by decide)).b), fun _ => zad rfl⟩))).b) ?_
 rw [List.length_map, List.length_map, g2, hcnt, decide_eq_true rfl]
 exact rt
end
theorem zeu {α : Type} {P : List α -> Prop} {us : List α} (hl : us.length = 1) (h : ∀ a0, P [a0]) : P us := match us, hl with
 | [a0], _ => h a0
theorem zjb {α : Type} {P : List α -> Prop} {us : List α} (hl : us.length = 2) (h : ∀ a0 a1, P [a0, a1]) : P us := match us, hl with
 | [a0, a1], _ => h a0 a1
theorem zk1 {α : Type} {P : List α -> Prop} {us : List α} (hl : us.length = 3) (h : ∀ a0 a1 a2, P [a0, a1, a2]) : P us := match us, hl with
 | [a0, a1, a2], _ => h a0 a1 a2
theorem zhf (kV doc pm : Value) (an : Option Addr) (cdv ct : Value) (us : List Value) (hl : us.length = (["self", "row"] : List Str).length) : bindArgs (PySem.W.fnOf "__init__" "NoRow.__init__" (zap zbb) (zan zbb) (zac zbb) .none kV doc pm an cdv ct) ⟨us, []⟩ = pure ((["self", "row"] : List Str).zip us) :=
 zjb (P:=fun us => bindArgs _ ⟨us, []⟩ = pure (List.zip _ us)) hl fun _ _ => rfl
theorem zfv (kV doc pm : Value) (an : Option Addr) (cdv ct : Value) (us : List Value) (hl : us.length = (["row"] : List Str).length) : bindArgs (PySem.W.fnOf "is_passed_by" "is_passed_by" (zap zay) (zan zay) (zac zay) .none kV doc pm an cdv ct) ⟨us, []⟩ = pure ((["row"] : List Str).zip us) :=
 zeu (P:=fun us => bindArgs _ ⟨us, []⟩ = pure (List.zip _ us)) hl fun _ => rfl
theorem ziw (kV doc pm : Value) (an : Option Addr) (cdv ct : Value) (us : List Value) (hl : us.length = (["text"] : List Str).length) : bindArgs (PySem.W.fnOf "told_rows" "told_rows" (zap zbe) (zan zbe) (zac zbe) .none kV doc pm an cdv ct) ⟨us, []⟩ = pure ((["text"] : List Str).zip us) :=
 zeu (P:=fun us => bindArgs _ ⟨us, []⟩ = pure (List.zip _ us)) hl fun _ => rfl
theorem zig (kV doc pm : Value) (an : Option Addr) (cdv ct : Value) (us : List Value) (hl : us.length = (["self", "weight", "field"] : List Str).length) : bindArgs (PySem.W.fnOf "__init__" "Rule.__init__" (zap zbk) (zan zbk) (zac zbk) .none kV doc pm an cdv ct) ⟨us, []⟩ = pure ((["self", "weight", "field"] : List Str).zip us) :=
 zk1 (P:=fun us => bindArgs _ ⟨us, []⟩ = pure (List.zip _ us)) hl fun _ _ _ => rfl
theorem zgb (kV doc pm : Value) (an : Option Addr) (cdv ct : Value) (us : List Value) (hl : us.length = (["self", "weight"] : List Str).length) : bindArgs (PySem.W.fnOf "__init__" "Former.__init__" (zap za3) (zan za3) (zac za3) .none kV doc pm an cdv ct) ⟨us, []⟩ = pure ((["self", "weight"] : List Str).zip us) :=
 zjb (P:=fun us => bindArgs _ ⟨us, []⟩ = pure (List.zip _ us)) hl fun _ _ => rfl
theorem zi4 (kV doc pm : Value) (an : Option Addr) (cdv ct : Value) (us : List Value) (hl : us.length = (["weight", "field", "word"] : List Str).length) : bindArgs (PySem.W.fnOf "made_rule" "made_rule" (zap zbp) (zan zbp) (zac zbp) .none kV doc pm an cdv ct) ⟨us, []⟩ = pure ((["weight", "field", "word"] : List Str).zip us) :=
 zk1 (P:=fun us => bindArgs _ ⟨us, []⟩ = pure (List.zip _ us)) hl fun _ _ _ => rfl
theorem zix (kV doc pm : Value) (an : Option Addr) (cdv ct : Value) (us : List Value) (hl : us.length = (["word"] : List Str).length) : bindArgs (PySem.W.fnOf "is_amount" "is_amount" (zap zbd) (zan zbd) (zac zbd) .none kV doc pm an cdv ct) ⟨us, []⟩ = pure ((["word"] : List Str).zip us) :=
 zeu (P:=fun us => bindArgs _ ⟨us, []⟩ = pure (List.zip _ us)) hl fun _ => rfl
theorem zjg (kV doc pm : Value) (an : Option Addr) (cdv ct : Value) (us : List Value) (hl : us.length = (["row"] : List Str).length) : bindArgs (PySem.W.fnOf "read_rule" "read_rule" (zap zbm) (zan zbm) (zac zbm) .none kV doc pm an cdv ct) ⟨us, []⟩ = pure ((["row"] : List Str).zip us) :=
 zeu (P:=fun us => bindArgs _ ⟨us, []⟩ = pure (List.zip _ us)) hl fun _ => rfl
theorem ze1 (kV doc pm : Value) (an : Option Addr) (cdv ct : Value) (us : List Value) (hl : us.length = (["number", "row"] : List Str).length) : bindArgs (PySem.W.fnOf "numbered_rule" "numbered_rule" (zap zav) (zan zav) (zac zav) .none kV doc pm an cdv ct) ⟨us, []⟩ = pure ((["number", "row"] : List Str).zip us) :=
 zjb (P:=fun us => bindArgs _ ⟨us, []⟩ = pure (List.zip _ us)) hl fun _ _ => rfl
theorem zhp (kV doc pm : Value) (an : Option Addr) (cdv ct : Value) (us : List Value) (hl : us.length = (["text"] : List Str).length) : bindArgs (PySem.W.fnOf "read_rules" "read_rules" (zap za5) (zan za5) (zac za5) .none kV doc pm an cdv ct) ⟨us, []⟩ = pure ((["text"] : List Str).zip us) :=
 zeu (P:=fun us => bindArgs _ ⟨us, []⟩ = pure (List.zip _ us)) hl fun _ => rfl
theorem zgf (kV doc pm : Value) (an : Option Addr) (cdv ct : Value) (us : List Value) (hl : us.length = (["_law_script", "_law_k"] : List Str).length) : bindArgs (PySem.W.fnOf "_law_cell_at" "_law_cell_at" (zap za4) (zan za4) (zac za4) .none kV doc pm an cdv ct) ⟨us, []⟩ = pure ((["_law_script", "_law_k"] : List Str).zip us) :=
 zjb (P:=fun us => bindArgs _ ⟨us, []⟩ = pure (List.zip _ us)) hl fun _ _ => rfl
theorem zjf (kV doc pm : Value) (an : Option Addr) (cdv ct : Value) (us : List Value) (hl : us.length = (["_law_found"] : List Str).length) : bindArgs (PySem.W.fnOf "_law_whole" "_law_whole" (zap zbn) (zan zbn) (zac zbn) .none kV doc pm an cdv ct) ⟨us, []⟩ = pure ((["_law_found"] : List Str).zip us) :=
 zeu (P:=fun us => bindArgs _ ⟨us, []⟩ = pure (List.zip _ us)) hl fun _ => rfl
theorem zjd (kV doc pm : Value) (an : Option Addr) (cdv ct : Value) (us : List Value) (hl : us.length = (["_law_cell"] : List Str).length) : bindArgs (PySem.W.fnOf "_law_words" "_law_words" (zap zbo) (zan zbo) (zac zbo) .none kV doc pm an cdv ct) ⟨us, []⟩ = pure ((["_law_cell"] : List Str).zip us) :=
 zeu (P:=fun us => bindArgs _ ⟨us, []⟩ = pure (List.zip _ us)) hl fun _ => rfl
theorem zeq (kV doc pm : Value) (an : Option Addr) (cdv ct : Value) (us : List Value) (hl : us.length = (["_law_number", "_law_draw"] : List Str).length) : bindArgs (PySem.W.fnOf "_law_bad_number" "_law_bad_number" (zap zar) (zan zar) (zac zar) .none kV doc pm an cdv ct) ⟨us, []⟩ = pure ((["_law_number", "_law_draw"] : List Str).zip us) :=
 zjb (P:=fun us => bindArgs _ ⟨us, []⟩ = pure (List.zip _ us)) hl fun _ _ => rfl
theorem zgj (kV doc pm : Value) (an : Option Addr) (cdv ct : Value) (us : List Value) (hl : us.length = (["_law_words_here", "_law_way", "_law_draw"] : List Str).length) : bindArgs (PySem.W.fnOf "_law_spoiled" "_law_spoiled" (zap za1) (zan za1) (zac za1) .none kV doc pm an cdv ct) ⟨us, []⟩ = pure ((["_law_words_here", "_law_way", "_law_draw"] : List Str).zip us) :=
 zk1 (P:=fun us => bindArgs _ ⟨us, []⟩ = pure (List.zip _ us)) hl fun _ _ _ => rfl
theorem zgo (kV doc pm : Value) (an : Option Addr) (cdv ct : Value) (us : List Value) (hl : us.length = (["_law_row", "_law_number", "_law_whole_here"] : List Str).length) : bindArgs (PySem.W.fnOf "_law_refused" "_law_refused" (zap za2) (zan za2) (zac za2) .none kV doc pm an cdv ct) ⟨us, []⟩ = pure ((["_law_row", "_law_number", "_law_whole_here"] : List Str).zip us) :=
 zk1 (P:=fun us => bindArgs _ ⟨us, []⟩ = pure (List.zip _ us)) hl fun _ _ _ => rfl
theorem zsd (kV doc pm : Value) (an : Option Addr) (cdv ct : Value) (us : List Value) (hl : us.length = (["_law_script"] : List Str).length) : bindArgs (PySem.W.fnOf "law" "law" (zap zgi) (zan zgi) (zac zgi) .none kV doc pm an cdv ct) ⟨us, []⟩ = pure ((["_law_script"] : List Str).zip us) :=
 zeu (P:=fun us => bindArgs _ ⟨us, []⟩ = pure (List.zip _ us)) hl fun _ => rfl
theorem all_mk {l : PySem.W.OpenLaw} {w : World} {K : PySem.W.Frag} {h : Heap} {mg : Str -> Option Value} {fa g0 g1 g2 g3 g4 g5 g6 g7 g8 g9 g10 g11 g12 g13 g14 g15 g16 : Addr} (X : K.In h) (G : h.Ns mainGlobals mg) (hfa : mg "law" = some (.ref fa))
  {od0 an0 od1 an1 od2 an2 od3 an3 od4 an4 od5 an5 od6 an6 od7 an7 od8 an8 od9 an9 od10 an10 od11 an11 od12 an12 od13 an13 od14 an14 od15 an15 od16 an16 : Option Addr} {sl0 sl1 sl2 sl3 sl4 sl5 sl6 sl7 sl8 sl9 sl10 sl11 sl12 sl13 sl14 sl15 sl16 : Array (Option Value)} {oc0 kV0 dc0 pm0 cd0 ct0 oc1 kV1 dc1 pm1 cd1 ct1 oc2 kV2 dc2 pm2 cd2 ct2 oc3 kV3 dc3 pm3 cd3 ct3 oc4 kV4 dc4 pm4 cd4 ct4 oc5 kV5 dc5 pm5 cd5 ct5 oc6 kV6 dc6 pm6 cd6 ct6 oc7 kV7 dc7 pm7 cd7 ct7 oc8 kV8 dc8 pm8 cd8 ct8 oc9 kV9 dc9 pm9 cd9 ct9 oc10 kV10 dc10 pm10 cd10 ct10 oc11 kV11 dc11 pm11 cd11 ct11 oc12 kV12 dc12 pm12 cd12 ct12 oc13 kV13 dc13 pm13 cd13 ct13 oc14 kV14 dc14 pm14 cd14 ct14 oc15 kV15 dc15 pm15 cd15 ct15 oc16 kV16 dc16 pm16 cd16 ct16 : Value}
  {q_FolkError : Addr} {q_Former : Addr} {q_Like : Addr} {q_Near : Addr} {q_NoName : Addr} {q_NoPair : Addr} {q_NoRow : Addr} {q_NoText : Addr} {q_Other : Addr} {q_Rule : Addr} {q_Same : Addr} {q_FIELDS : Addr} {od_FIELDS : Option Addr} {nn_FIELDS : Nat} {sl_FIELDS : Array (Option Value)} {t0_FIELDS t1_FIELDS t2_FIELDS t3_FIELDS t4_FIELDS : Tok} {t_FIGURES : Tok} {t_GREATEST : Tok}
  (l0 : K.lookup g0 = some ⟨oc0, od0, .func (PySem.W.fnOf "__init__" "NoRow.__init__" (zap zbb) (zan zbb) (zac zbb) .none kV0 dc0 pm0 an0 cd0 ct0), sl0⟩) (c0 : PySem.W.codeIn K cd0 "NoRow.__init__" = true) (k0 : PySem.W.keepIn K (.ref g0) = true) (mf0 : PySem.W.isFn K (.ref g0) = true)
  (a1 : PySem.W.nsIn K mainGlobals "is_passed_by" = some (some (.ref g1))) (l1 : K.lookup g1 = some ⟨oc1, od1, .func (PySem.W.fnOf "is_passed_by" "is_passed_by" (zap zay) (zan zay) (zac zay) .none kV1 dc1 pm1 an1 cd1 ct1), sl1⟩) (c1 : PySem.W.codeIn K cd1 "is_passed_by" = true) (k1 : PySem.W.keepIn K (.ref g1) = true)
  (a2 : PySem.W.nsIn K mainGlobals "told_rows" = some (some (.ref g2))) (l2 : K.lookup g2 = some ⟨oc2, od2, .func (PySem.W.fnOf "told_rows" "told_rows" (zap zbe) (zan zbe) (zac zbe) .none kV2 dc2 pm2 an2 cd2 ct2), sl2⟩) (c2 : PySem.W.codeIn K cd2 "told_rows" = true) (k2 : PySem.W.keepIn K (.ref g2) = true)
  (l3 : K.lookup g3 = some ⟨oc3, od3, .func (PySem.W.fnOf "__init__" "Rule.__init__" (zap zbk) (zan zbk) (zac zbk) .none kV3 dc3 pm3 an3 cd3 ct3), sl3⟩) (c3 : PySem.W.codeIn K cd3 "Rule.__init__" = true) (k3 : PySem.W.keepIn K (.ref g3) = true) (mf3 : PySem.W.isFn K (.ref g3) = true)
  (l4 : K.lookup g4 = some ⟨oc4, od4, .func (PySem.W.fnOf "__init__" "Former.__init__" (zap za3) (zan za3) (zac za3) .none kV4 dc4 pm4 an4 cd4 ct4), sl4⟩) (c4 : PySem.W.codeIn K cd4 "Former.__init__" = true) (k4 : PySem.W.keepIn K (.ref g4) = true) (mf4 : PySem.W.isFn K (.ref g4) = true)
  (a5 : PySem.W.nsIn K mainGlobals "made_rule" = some (some (.ref g5))) (l5 : K.lookup g5 = some ⟨oc5, od5, .func (PySem.W.fnOf "made_rule" "made_rule" (zap zbp) (zan zbp) (zac zbp) .none kV5 dc5 pm5 an5 cd5 ct5), sl5⟩) (c5 : PySem.W.codeIn K cd5 "made_rule" = true) (k5 : PySem.W.keepIn K (.ref g5) = true)
  (a6 : PySem.W.nsIn K mainGlobals "is_amount" = some (some (.ref g6))) (l6 : K.lookup g6 = some ⟨oc6, od6, .func (PySem.W.fnOf "is_amount" "is_amount" (zap zbd) (zan zbd) (zac zbd) .none kV6 dc6 pm6 an6 cd6 ct6), sl6⟩) (c6 : PySem.W.codeIn K cd6 "is_amount" = true) (k6 : PySem.W.keepIn K (.ref g6) = true)
  (a7 : PySem.W.nsIn K mainGlobals "read_rule" = some (some (.ref g7))) (l7 : K.lookup g7 = some ⟨oc7, od7, .func (PySem.W.fnOf "read_rule" "read_rule" (zap zbm) (zan zbm) (zac zbm) .none kV7 dc7 pm7 an7 cd7 ct7), sl7⟩) (c7 : PySem.W.codeIn K cd7 "read_rule" = true) (k7 : PySem.W.keepIn K (.ref g7) = true)
  (a8 : PySem.W.nsIn K mainGlobals "numbered_rule" = some (some (.ref g8))) (l8 : K.lookup g8 = some ⟨oc8, od8, .func (PySem.W.fnOf "numbered_rule" "numbered_rule" (zap zav) (zan zav) (zac zav) .none kV8 dc8 pm8 an8 cd8 ct8), sl8⟩) (c8 : PySem.W.codeIn K cd8 "numbered_rule" = true) (k8 : PySem.W.keepIn K (.ref g8) = true)
  (a9 : PySem.W.nsIn K mainGlobals "read_rules" = some (some (.ref g9))) (l9 : K.lookup g9 = some ⟨oc9, od9, .func (PySem.W.fnOf "read_rules" "read_rules" (zap za5) (zan za5) (zac za5) .none kV9 dc9 pm9 an9 cd9 ct9), sl9⟩) (c9 : PySem.W.codeIn K cd9 "read_rules" = true) (k9 : PySem.W.keepIn K (.ref g9) = true)
  (a10 : PySem.W.nsIn K mainGlobals "_law_cell_at" = some (some (.ref g10))) (l10 : K.lookup g10 = some ⟨oc10, od10, .func (PySem.W.fnOf "_law_cell_at" "_law_cell_at" (zap za4) (zan za4) (zac za4) .none kV10 dc10 pm10 an10 cd10 ct10), sl10⟩) (c10 : PySem.W.codeIn K cd10 "_law_cell_at" = true) (k10 : PySem.W.keepIn K (.ref g10) = true)
  (a11 : PySem.W.nsIn K mainGlobals "_law_whole" = some (some (.ref g11))) (l11 : K.lookup g11 = some ⟨oc11, od11, .func (PySem.W.fnOf "_law_whole" "_law_whole" (zap zbn) (zan zbn) (zac zbn) .none kV11 dc11 pm11 an11 cd11 ct11), sl11⟩) (c11 : PySem.W.codeIn K cd11 "_law_whole" = true) (k11 : PySem.W.keepIn K (.ref g11) = true)
  (a12 : PySem.W.nsIn K mainGlobals "_law_words" = some (some (.ref g12))) (l12 : K.lookup g12 = some ⟨oc12, od12, .func (PySem.W.fnOf "_law_words" "_law_words" (zap zbo) (zan zbo) (zac zbo) .none kV12 dc12 pm12 an12 cd12 ct12), sl12⟩) (c12 : PySem.W.codeIn K cd12 "_law_words" = true) (k12 : PySem.W.keepIn K (.ref g12) = true)
  (a13 : PySem.W.nsIn K mainGlobals "_law_bad_number" = some (some (.ref g13))) (l13 : K.lookup g13 = some ⟨oc13, od13, .func (PySem.W.fnOf "_law_bad_number" "_law_bad_number" (zap zar) (zan zar) (zac zar) .none kV13 dc13 pm13 an13 cd13 ct13), sl13⟩) (c13 : PySem.W.codeIn K cd13 "_law_bad_number" = true) (k13 : PySem.W.keepIn K (.ref g13) = true)
  (a14 : PySem.W.nsIn K mainGlobals "_law_spoiled" = some (some (.ref g14))) (l14 : K.lookup g14 = some ⟨oc14, od14, .func (PySem.W.fnOf "_law_spoiled" "_law_spoiled" (zap za1) (zan za1) (zac za1) .none kV14 dc14 pm14 an14 cd14 ct14), sl14⟩) (c14 : PySem.W.codeIn K cd14 "_law_spoiled" = true) (k14 : PySem.W.keepIn K (.ref g14) = true)
  (a15 : PySem.W.nsIn K mainGlobals "_law_refused" = some (some (.ref g15))) (l15 : K.lookup g15 = some ⟨oc15, od15, .func (PySem.W.fnOf "_law_refused" "_law_refused" (zap za2) (zan za2) (zac za2) .none kV15 dc15 pm15 an15 cd15 ct15), sl15⟩) (c15 : PySem.W.codeIn K cd15 "_law_refused" = true) (k15 : PySem.W.keepIn K (.ref g15) = true)
  (a16 : PySem.W.nsIn K mainGlobals "law" = some (some (.ref g16))) (l16 : K.lookup g16 = some ⟨oc16, od16, .func (PySem.W.fnOf "law" "law" (zap zgi) (zan zgi) (zac zgi) .none kV16 dc16 pm16 an16 cd16 ct16), sl16⟩) (c16 : PySem.W.codeIn K cd16 "law" = true) (k16 : PySem.W.keepIn K (.ref g16) = true)
  (a_FolkError : PySem.W.nsIn K mainGlobals "FolkError" = some (some (.ref q_FolkError)))
  (a_Former : PySem.W.nsIn K mainGlobals "Former" = some (some (.ref q_Former)))
  (a_Like : PySem.W.nsIn K mainGlobals "Like" = some (some (.ref q_Like)))
  (a_Near : PySem.W.nsIn K mainGlobals "Near" = some (some (.ref q_Near)))
  (a_NoName : PySem.W.nsIn K mainGlobals "NoName" = some (some (.ref q_NoName)))
  (a_NoPair : PySem.W.nsIn K mainGlobals "NoPair" = some (some (.ref q_NoPair)))
  (a_NoRow : PySem.W.nsIn K mainGlobals "NoRow" = some (some (.ref q_NoRow)))
  (a_NoText : PySem.W.nsIn K mainGlobals "NoText" = some (some (.ref q_NoText)))
  (a_Other : PySem.W.nsIn K mainGlobals "Other" = some (some (.ref q_Other)))
  (a_Rule : PySem.W.nsIn K mainGlobals "Rule" = some (some (.ref q_Rule)))
  (a_Same : PySem.W.nsIn K mainGlobals "Same" = some (some (.ref q_Same)))
  (me_NoRow_init : PySem.W.findIn K (.ref q_NoRow) "__init__" = some (some (.ref g0))) (xi_NoRow : L2.excInI K q_NoRow L2.vmro "ValueError.__new__" g0 = true) (mc_NoRow : PySem.W.keepIn K (.ref q_NoRow) = true)
  (xs0_NoRow : PySem.W.findIn K (.ref q_NoRow) "__setattr__" = some (some (.builtin "object.__setattr__")))
  (xs1_NoRow : PySem.W.findIn K (.ref q_NoRow) "row" = some none)
  (xs2_NoRow : PySem.W.mroIn K q_NoRow (.type "object") = some true)
  (xs3_NoRow : PySem.W.hasDictIn K q_NoRow = true)
  (xi4_NoRow : ((PySem.W.clsIn K q_NoRow).any fun cd => L2.vtail cd.mro) = true)
  (cb0_FolkError : PySem.W.specialIn K (.ref q_FolkError) "__getattribute__" = some (some (.builtin "type.__getattribute__"))) (cb1_FolkError : PySem.W.readsIn K q_FolkError (.type "type") = true) (cb2_FolkError : PySem.W.findCls K (.ref q_FolkError) (.type "type") "__init__" = some (.val (.builtin "ValueError.__init__")))
  (cl0_Same : PySem.W.plainGet K q_Same Str.empty = true)
  (cl1_Same : PySem.W.hasDictIn K q_Same = true)
  (cl2_Same : PySem.W.plainOver K q_Same = true)
  (cl3_Same : PySem.W.findIn K (.ref q_Same) "__setattr__" = some (some (.builtin "object.__setattr__")))
  (mk_Same : PySem.W.makesIn K q_Same = true) (me_Same_init : PySem.W.findIn K (.ref q_Same) "__init__" = some (some (.ref g3))) (mc_Same : PySem.W.keepIn K (.ref q_Same) = true)
  (cl0_Like : PySem.W.plainGet K q_Like Str.empty = true)
  (cl1_Like : PySem.W.hasDictIn K q_Like = true)
  (cl2_Like : PySem.W.plainOver K q_Like = true)
  (cl3_Like : PySem.W.findIn K (.ref q_Like) "__setattr__" = some (some (.builtin "object.__setattr__")))
  (mk_Like : PySem.W.makesIn K q_Like = true) (me_Like_init : PySem.W.findIn K (.ref q_Like) "__init__" = some (some (.ref g3))) (mc_Like : PySem.W.keepIn K (.ref q_Like) = true)
  (cl0_Near : PySem.W.plainGet K q_Near Str.empty = true)
  (cl1_Near : PySem.W.hasDictIn K q_Near = true)
  (cl2_Near : PySem.W.plainOver K q_Near = true)
  (cl3_Near : PySem.W.findIn K (.ref q_Near) "__setattr__" = some (some (.builtin "object.__setattr__")))
  (mk_Near : PySem.W.makesIn K q_Near = true) (me_Near_init : PySem.W.findIn K (.ref q_Near) "__init__" = some (some (.ref g3))) (mc_Near : PySem.W.keepIn K (.ref q_Near) = true)
  (cl0_Other : PySem.W.plainGet K q_Other Str.empty = true)
  (cl1_Other : PySem.W.hasDictIn K q_Other = true)
  (cl2_Other : PySem.W.plainOver K q_Other = true)
  (cl3_Other : PySem.W.findIn K (.ref q_Other) "__setattr__" = some (some (.builtin "object.__setattr__")))
  (mk_Other : PySem.W.makesIn K q_Other = true) (me_Other_init : PySem.W.findIn K (.ref q_Other) "__init__" = some (some (.ref g3))) (mc_Other : PySem.W.keepIn K (.ref q_Other) = true)
  (cl0_Former : PySem.W.plainGet K q_Former Str.empty = true)
  (cl1_Former : PySem.W.hasDictIn K q_Former = true)
  (cl2_Former : PySem.W.plainOver K q_Former = true)
  (cl3_Former : PySem.W.findIn K (.ref q_Former) "__setattr__" = some (some (.builtin "object.__setattr__")))
  (mk_Former : PySem.W.makesIn K q_Former = true) (me_Former_init : PySem.W.findIn K (.ref q_Former) "__init__" = some (some (.ref g4))) (mc_Former : PySem.W.keepIn K (.ref q_Former) = true)
  (t0_NoRow : PySem.W.findIn K (.ref q_NoRow) "__getattribute__" = some (some (.builtin "BaseException.__getattribute__")))
  (t1_NoRow : PySem.W.findIn K (.ref q_NoRow) "__getattr__" = some none)
  (t2_NoRow : PySem.W.mroIn K q_NoRow (.type "BaseException") = some true)
  (t3_NoRow : PySem.W.findIn K (.ref q_NoRow) "__class__" = some (some (.builtin "object.__class__")))
  (t4_NoRow : PySem.W.specialIn K (.builtin "object.__class__") "__get__" = some (some (.builtin "getset_descriptor.__get__")))
  (t5_NoRow : PySem.W.takesIn K (.builtin "object.__class__") = some true)
  (t6_NoRow : PySem.W.mroIn K q_NoRow (.type "object") = some true)
  (t7_NoRow : PySem.W.hasDictIn K q_NoRow = true)
  (h_NoRow_NoRow : PySem.W.exmOne K (.ref q_NoRow) (.ref q_NoRow) = some true)
  (h_NoRow_FolkError : PySem.W.exmOne K (.ref q_NoRow) (.ref q_FolkError) = some true)
  (i_NoRow_ValueError : PySem.W.kitOne K (.ref q_NoRow) (.type "ValueError") = some true)
  (i_NoRow_NoRow : PySem.W.kitOne K (.ref q_NoRow) (.ref q_NoRow) = some true)
  (i_NoRow_NoName : PySem.W.kitOne K (.ref q_NoRow) (.ref q_NoName) = some false)
  (i_NoRow_NoText : PySem.W.kitOne K (.ref q_NoRow) (.ref q_NoText) = some false)
  (i_NoRow_NoPair : PySem.W.kitOne K (.ref q_NoRow) (.ref q_NoPair) = some false)
  (na_NoRow_row : PySem.W.findIn K (.ref q_NoRow) "row" = some none)
  (na_Same_field : PySem.W.findIn K (.ref q_Same) "field" = some none)
  (na_Like_field : PySem.W.findIn K (.ref q_Like) "field" = some none)
  (na_Near_field : PySem.W.findIn K (.ref q_Near) "field" = some none)
  (na_Other_field : PySem.W.findIn K (.ref q_Other) "field" = some none)
  (na_Former_field : PySem.W.findIn K (.ref q_Former) "field" = some none)
  (me_ca_Rule_init : PySem.W.findIn K (.ref q_Rule) "__init__" = some (some (.ref g3))) (ca0_Rule_init : PySem.W.specialIn K (.ref q_Rule) "__getattribute__" = some (some (.builtin "type.__getattribute__"))) (ca1_Rule_init : PySem.W.readsIn K q_Rule (.type "type") = true) (ca2_Rule_init : PySem.W.findCls K (.ref q_Rule) (.type "type") "__init__" = some (.val (.ref g3)))
  (na_Former_weight : PySem.W.findIn K (.ref q_Former) "weight" = some none)
  (na_Like_weight : PySem.W.findIn K (.ref q_Like) "weight" = some none)
  (na_Near_weight : PySem.W.findIn K (.ref q_Near) "weight" = some none)
  (na_Other_weight : PySem.W.findIn K (.ref q_Other) "weight" = some none)
  (na_Same_weight : PySem.W.findIn K (.ref q_Same) "weight" = some none)
  (a_FIELDS : PySem.W.nsIn K mainGlobals "FIELDS" = some (some (.ref q_FIELDS))) (l_FIELDS : K.lookup q_FIELDS = some ⟨.type "tuple", od_FIELDS, .seq #[.str (T [110, 97, 109, 101]) t0_FIELDS, .str (T [102, 111, 114, 109, 101, 114]) t1_FIELDS, .str (T [119, 97, 121]) t2_FIELDS, .str (T [100, 97, 121]) t3_FIELDS, .str (T [109, 97, 114, 107]) t4_FIELDS] nn_FIELDS, sl_FIELDS⟩)
  (a_FIGURES : PySem.W.nsIn K mainGlobals "FIGURES" = some (some (.str (T [48, 49, 50, 51, 52, 53, 54, 55, 56, 57]) t_FIGURES)))
  (a_GREATEST : PySem.W.nsIn K mainGlobals "GREATEST" = some (some (.int 1000000000 t_GREATEST)))
  (y_ValueError : PySem.W.nsIn K mainGlobals "ValueError" = some none)
  (y_all : PySem.W.nsIn K mainGlobals "all" = some none)
  (y_bool : PySem.W.nsIn K mainGlobals "bool" = some none)
  (y_enumerate : PySem.W.nsIn K mainGlobals "enumerate" = some none)
  (y_int : PySem.W.nsIn K mainGlobals "int" = some none)
  (y_isinstance : PySem.W.nsIn K mainGlobals "isinstance" = some none)
  (y_len : PySem.W.nsIn K mainGlobals "len" = some none)
  (y_list : PySem.W.nsIn K mainGlobals "list" = some none)
  (y_max : PySem.W.nsIn K mainGlobals "max" = some none)
  (y_min : PySem.W.nsIn K mainGlobals "min" = some none)
  (y_range : PySem.W.nsIn K mainGlobals "range" = some none)
  (y_str : PySem.W.nsIn K mainGlobals "str" = some none)
  (y_zip : PySem.W.nsIn K mainGlobals "zip" = some none) :
  ∃ fd : FuncData, (∀ (s : Shared) (v : Value), BindsTo s fd ⟨[v], []⟩ [("_law_script", v)]) /\ ∀ base : Heap, K.In base -> base.Ns mainGlobals mg -> FnOk l.prog w K mg base CX0 21 fa fd ["_law_script"] (zn6 K) := by
 have e := hfa.symm.trans (PySem.W.mg_of X G a16)
 cases e
 have F0 := zb8 (st:=zbb) l0 c0 k0
 have b0 := F0.binds (ps:=["self", "row"]) zhf
 have F1 := zb8 (st:=zay) l1 c1 k1
 have b1 := F1.binds (ps:=["row"]) zfv
 have F2 := zb8 (st:=zbe) l2 c2 k2
 have b2 := F2.binds (ps:=["text"]) ziw
 have F3 := zb8 (st:=zbk) l3 c3 k3
 have b3 := F3.binds (ps:=["self", "weight", "field"]) zig
 have F4 := zb8 (st:=za3) l4 c4 k4
 have b4 := F4.binds (ps:=["self", "weight"]) zgb
 have F5 := zb8 (st:=zbp) l5 c5 k5
 have b5 := F5.binds (ps:=["weight", "field", "word"]) zi4
 have F6 := zb8 (st:=zbd) l6 c6 k6
 have b6 := F6.binds (ps:=["word"]) zix
 have F7 := zb8 (st:=zbm) l7 c7 k7
 have b7 := F7.binds (ps:=["row"]) zjg
 have F8 := zb8 (st:=zav) l8 c8 k8
 have b8 := F8.binds (ps:=["number", "row"]) ze1
 have F9 := zb8 (st:=za5) l9 c9 k9
 have b9 := F9.binds (ps:=["text"]) zhp
 have F10 := zb8 (st:=za4) l10 c10 k10
 have b10 := F10.binds (ps:=["_law_script", "_law_k"]) zgf
 have F11 := zb8 (st:=zbn) l11 c11 k11
 have b11 := F11.binds (ps:=["_law_found"]) zjf
 have F12 := zb8 (st:=zbo) l12 c12 k12
 have b12 := F12.binds (ps:=["_law_cell"]) zjd
 have F13 := zb8 (st:=zar) l13 c13 k13
 have b13 := F13.binds (ps:=["_law_number", "_law_draw"]) zeq
 have F14 := zb8 (st:=za1) l14 c14 k14
 have b14 := F14.binds (ps:=["_law_words_here", "_law_way", "_law_draw"]) zgj
 have F15 := zb8 (st:=za2) l15 c15 k15
 have b15 := F15.binds (ps:=["_law_row", "_law_number", "_law_whole_here"]) zgo
 have F16 := zb8 (st:=zgi) l16 c16 k16
 have b16 := F16.binds (ps:=["_law_script"]) zsd
 exact ⟨_, fun s v => .of_eq rfl, fun base _ _ => zsc (ad0:=⟨q_FolkError, q_Former, q_Like, q_Near, q_NoName, q_NoPair, q_NoRow, q_NoText, q_Other, q_Rule, q_Same, q_FIELDS, g0, g1, g2, g3, g4, g5, g6, g7, g8, g9, g10, g11, g12, g13, g14, g15, _, _, _, _, _, _, _, _, _, _, _, _, _, _, _, _, _, _, _, _⟩) ⟨PySem.W.mg_of X G a_FolkError, PySem.W.mg_of X G a_Former, PySem.W.mg_of X G a_Like, PySem.W.mg_of X G a_Near, PySem.W.mg_of X G a_NoName, PySem.W.mg_of X G a_NoPair, PySem.W.mg_of X G a_NoRow, PySem.W.mg_of X G a_NoText, PySem.W.mg_of X G a_Other, PySem.W.mg_of X G a_Rule, PySem.W.mg_of X G a_Same, ⟨xi_NoRow, mf0, mc_NoRow⟩, ⟨xs0_NoRow, xs1_NoRow, xs2_NoRow, xs3_NoRow, xi4_NoRow⟩, ⟨cb0_FolkError, cb1_FolkError, cb2_FolkError⟩, ⟨cl0_Same, cl1_Same, cl2_Same, cl3_Same⟩, ⟨mk_Same, me_Same_init, mf3, mc_Same⟩, ⟨cl0_Like, cl1_Like, cl2_Like, cl3_Like⟩, ⟨mk_Like, me_Like_init, mf3, mc_Like⟩, ⟨cl0_Near, cl1_Near, cl2_Near, cl3_Near⟩, ⟨mk_Near, me_Near_init, mf3, mc_Near⟩, ⟨cl0_Other, cl1_Other, cl2_Other, cl3_Other⟩, ⟨mk_Other, me_Other_init, mf3, mc_Other⟩, ⟨cl0_Former, cl1_Former, cl2_Former, cl3_Former⟩, ⟨mk_Former, me_Former_init, mf4, mc_Former⟩, ⟨t0_NoRow, t1_NoRow, t2_NoRow, t3_NoRow, t4_NoRow, t5_NoRow, t6_NoRow, t7_NoRow⟩, h_NoRow_NoRow, h_NoRow_FolkError, i_NoRow_ValueError, i_NoRow_NoRow, i_NoRow_NoName, i_NoRow_NoText, i_NoRow_NoPair, na_NoRow_row, na_Same_field, na_Like_field, na_Near_field, na_Other_field, na_Former_field, ⟨ca0_Rule_init, ca1_Rule_init, ca2_Rule_init, k3⟩, na_Former_weight, na_Like_weight, na_Near_weight, na_Other_weight, na_Same_weight, PySem.W.mg_of X G a_FIELDS, zpk l_FIELDS rfl rfl rfl (by decide) (by decide) (fun i l u h1 h2 => by rcases i with _ | _ | _ | _ | _ | i <;> simp at h1 h2 <;> (subst h1; subst h2; exact ⟨_, rfl⟩)), PySem.W.mg_of X G a_FIGURES, ⟨_, rfl⟩, PySem.W.mg_of X G a_GREATEST, ⟨_, rfl⟩, F0, b0, F1, b1, PySem.W.mg_of X G a1, F2, b2, PySem.W.mg_of X G a2, F3, b3, F4, b4, F5, b5, PySem.W.mg_of X G a5, F6, b6, PySem.W.mg_of X G a6, F7, b7, PySem.W.mg_of X G a7, F8, b8, PySem.W.mg_of X G a8, F9, b9, PySem.W.mg_of X G a9, F10, b10, PySem.W.mg_of X G a10, F11, b11, PySem.W.mg_of X G a11, F12, b12, PySem.W.mg_of X G a12, F13, b13, PySem.W.mg_of X G a13, F14, b14, PySem.W.mg_of X G a14, F15, b15, PySem.W.mg_of X G a15, F16, b16, PySem.W.mg_of X G a16, PySem.W.mg_none_of X G y_ValueError, PySem.W.mg_none_of X G y_all, PySem.W.mg_none_of X G y_bool, PySem.W.mg_none_of X G y_enumerate, PySem.W.mg_none_of X G y_int, PySem.W.mg_none_of X G y_isinstance, PySem.W.mg_none_of X G y_len, PySem.W.mg_none_of X G y_list, PySem.W.mg_none_of X G y_max, PySem.W.mg_none_of X G y_min, PySem.W.mg_none_of X G y_range, PySem.W.mg_none_of X G y_str, PySem.W.mg_none_of X G y_zip⟩⟩
theorem walk {l : PySem.W.OpenLaw} {q : Program} {loose : List Str} {XP : (Str -> Option Value) -> Heap -> Prop} {YP : World -> Heap -> Prop} {d : DefRec} {K : Params -> PySem.W.Frag} (hn : l.most = some 63) (hdf : d.params.defaults = [])
  (hY : ∀ (w : World) (h : Heap), YP w h -> (K w.params).In h)
  (F : ∀ (w : World) (mg : Str -> Option Value) (fa : Addr) (h : Heap), (K w.params).In h -> h.Ns mainGlobals mg -> mg d.name = some (.ref fa) ->
   ∃ fd : FuncData, (∀ (s : Shared) (u : Value), BindsTo s fd ⟨[u], []⟩ [("_law_script", u)]) /\ ∀ base : Heap, (K w.params).In base -> base.Ns mainGlobals mg -> FnOk l.prog w (K w.params) mg base CX0 21 fa fd ["_law_script"] (zn6 (K w.params))) :
  PySem.W.WalkO q loose XP YP l.row.toRowW d [] (fun f vs => PySem.call f vs) :=
 L2.walk_of (n:=63) (k:=21) (x:="_law_script") (CX:=fun _ => CX0) (sp:=fun w => zn6 (K w.params)) hn (by decide) hdf ⟨rfl, by decide, by decide, rfl⟩ hY F (fun _ _ a ns hl _ hS => ⟨a, ns, rfl, hS, hl, fun _ => rfl⟩) fun _ _ _ _ _ z => z
end My
noncomputable def PySem.W.Fast.tw11878318241694226679 : Unit := ()
noncomputable def PySem.W.Fast.tw17378695349589343384 : Unit := ()
noncomputable def PySem.W.Fast.tw17115357434536798642 : Unit := ()
open PySem PySem.W PyProof.Rows
set_option maxRecDepth 100000 in
set_option maxHeartbeats 0 in
theorem PySem.Challenge.cw_folk_k22_rules_refused_holds : PySem.Challenge.rw_folk_k22_rules_refused.Holds := by
 w_on; o_law; k_head; (case hw => w_witness2)
 k_fill
 refine My.walk (l:=PySem.Challenge.rw_folk_k22_rules_refused) rfl rfl (fun w h Y => PySem.W.kIn_of Y) ?F
 case F =>
  intro w mg fa h KX G hmg
  refine' My.all_mk KX G hmg ?l0 ?c0 ?k0 ?mf0 ?a1 ?l1 ?c1 ?k1 ?a2 ?l2 ?c2 ?k2 ?l3 ?c3 ?k3 ?mf3 ?l4 ?c4 ?k4 ?mf4 ?a5 ?l5 ?c5 ?k5 ?a6 ?l6 ?c6 ?k6 ?a7 ?l7 ?c7 ?k7 ?a8 ?l8 ?c8 ?k8 ?a9 ?l9 ?c9 ?k9 ?a10 ?l10 ?c10 ?k10 ?a11 ?l11 ?c11 ?k11 ?a12 ?l12 ?c12 ?k12 ?a13 ?l13 ?c13 ?k13 ?a14 ?l14 ?c14 ?k14 ?a15 ?l15 ?c15 ?k15 ?a16 ?l16 ?c16 ?k16 ?a_FolkError ?a_Former ?a_Like ?a_Near ?a_NoName ?a_NoPair ?a_NoRow ?a_NoText ?a_Other ?a_Rule ?a_Same ?me_NoRow_init ?xi_NoRow ?mc_NoRow ?xs0_NoRow ?xs1_NoRow ?xs2_NoRow ?xs3_NoRow ?xi4_NoRow ?cb0_FolkError ?cb1_FolkError ?cb2_FolkError ?cl0_Same ?cl1_Same ?cl2_Same ?cl3_Same ?mk_Same ?me_Same_init ?mc_Same ?cl0_Like ?cl1_Like ?cl2_Like ?cl3_Like ?mk_Like ?me_Like_init ?mc_Like ?cl0_Near ?cl1_Near ?cl2_Near ?cl3_Near ?mk_Near ?me_Near_init ?mc_Near ?cl0_Other ?cl1_Other ?cl2_Other ?cl3_Other ?mk_Other ?me_Other_init ?mc_Other ?cl0_Former ?cl1_Former ?cl2_Former ?cl3_Former ?mk_Former ?me_Former_init ?mc_Former ?t0_NoRow ?t1_NoRow ?t2_NoRow ?t3_NoRow ?t4_NoRow ?t5_NoRow ?t6_NoRow ?t7_NoRow ?h_NoRow_NoRow ?h_NoRow_FolkError ?i_NoRow_ValueError ?i_NoRow_NoRow ?i_NoRow_NoName ?i_NoRow_NoText ?i_NoRow_NoPair ?na_NoRow_row ?na_Same_field ?na_Like_field ?na_Near_field ?na_Other_field ?na_Former_field ?me_ca_Rule_init ?ca0_Rule_init ?ca1_Rule_init ?ca2_Rule_init ?na_Former_weight ?na_Like_weight ?na_Near_weight ?na_Other_weight ?na_Same_weight ?a_FIELDS ?l_FIELDS ?a_FIGURES ?a_GREATEST ?y_ValueError ?y_all ?y_bool ?y_enumerate ?y_int ?y_isinstance ?y_len ?y_list ?y_max ?y_min ?y_range ?y_str ?y_zip
  (case a_FolkError => k_is)
  (case a_Former => k_is)
  (case a_Like => k_is)
  (case a_Near => k_is)
  (case a_NoName => k_is)
  (case a_NoPair => k_is)
  (case a_NoRow => k_is)
  (case a_NoText => k_is)
  (case a_Other => k_is)
  (case a_Rule => k_is)
  (case a_Same => k_is)
  (case me_NoRow_init => k_is)
  (case me_Same_init => k_is)
  (case me_Like_init => k_is)
  (case me_Near_init => k_is)
  (case me_Other_init => k_is)
  (case me_Former_init => k_is)
  (case me_ca_Rule_init => k_is)
  (case a_FIELDS => k_is)
  (case a_FIGURES => k_is)
  (case a_GREATEST => k_is)
  (case l0 => k_is)
  (case c0 => k_is)
  (case k0 => k_is)
  (case mf0 => k_is)
  (case a1 => k_is)
  (case l1 => k_is)
  (case c1 => k_is)
  (case k1 => k_is)
  (case a2 => k_is)
  (case l2 => k_is)
  (case c2 => k_is)
  (case k2 => k_is)
  (case l3 => k_is)
  (case c3 => k_is)
  (case k3 => k_is)
  (case mf3 => k_is)
  (case l4 => k_is)
  (case c4 => k_is)
  (case k4 => k_is)
  (case mf4 => k_is)
  (case a5 => k_is)
  (case l5 => k_is)
  (case c5 => k_is)
  (case k5 => k_is)
  (case a6 => k_is)
  (case l6 => k_is)
  (case c6 => k_is)
  (case k6 => k_is)
  (case a7 => k_is)
  (case l7 => k_is)
  (case c7 => k_is)
  (case k7 => k_is)
  (case a8 => k_is)
  (case l8 => k_is)
  (case c8 => k_is)
  (case k8 => k_is)
  (case a9 => k_is)
  (case l9 => k_is)
  (case c9 => k_is)
  (case k9 => k_is)
  (case a10 => k_is)
  (case l10 => k_is)
  (case c10 => k_is)
  (case k10 => k_is)
  (case a11 => k_is)
  (case l11 => k_is)
  (case c11 => k_is)
  (case k11 => k_is)
  (case a12 => k_is)
  (case l12 => k_is)
  (case c12 => k_is)
  (case k12 => k_is)
  (case a13 => k_is)
  (case l13 => k_is)
  (case c13 => k_is)
  (case k13 => k_is)
  (case a14 => k_is)
  (case l14 => k_is)
  (case c14 => k_is)
  (case k14 => k_is)
  (case a15 => k_is)
  (case l15 => k_is)
  (case c15 => k_is)
  (case k15 => k_is)
  (case a16 => k_is)
  (case l16 => k_is)
  (case c16 => k_is)
  (case k16 => k_is)
  (case xi_NoRow => kernel_rfl)
  (case mc_NoRow => k_is)
  (case xs0_NoRow => k_is)
  (case xs1_NoRow => k_is)
  (case xs2_NoRow => k_is)
  (case xs3_NoRow => k_is)
  (case xi4_NoRow => kernel_rfl)
  (case cb0_FolkError => k_is)
  (case cb1_FolkError => k_is)
  (case cb2_FolkError => k_is)
  (case cl0_Same => k_is)
  (case cl1_Same => k_is)
  (case cl2_Same => k_is)
  (case cl3_Same => k_is)
  (case mk_Same => k_is)
  (case mc_Same => k_is)
  (case cl0_Like => k_is)
  (case cl1_Like => k_is)
  (case cl2_Like => k_is)
  (case cl3_Like => k_is)
  (case mk_Like => k_is)
  (case mc_Like => k_is)
  (case cl0_Near => k_is)
  (case cl1_Near => k_is)
  (case cl2_Near => k_is)
  (case cl3_Near => k_is)
  (case mk_Near => k_is)
  (case mc_Near => k_is)
  (case cl0_Other => k_is)
  (case cl1_Other => k_is)
  (case cl2_Other => k_is)
  (case cl3_Other => k_is)
  (case mk_Other => k_is)
  (case mc_Other => k_is)
  (case cl0_Former => k_is)
  (case cl1_Former => k_is)
  (case cl2_Former => k_is)
  (case cl3_Former => k_is)
  (case mk_Former => k_is)
  (case mc_Former => k_is)
  (case t0_NoRow => k_is)
  (case t1_NoRow => k_is)
  (case t2_NoRow => k_is)
  (case t3_NoRow => k_is)
  (case t4_NoRow => k_is)
  (case t5_NoRow => k_is)
  (case t6_NoRow => k_is)
  (case t7_NoRow => k_is)
  (case h_NoRow_NoRow => kts_exm)
  (case h_NoRow_FolkError => kts_exm)
  (case i_NoRow_ValueError => kit_is)
  (case i_NoRow_NoRow => kit_is)
  (case i_NoRow_NoName => kit_is)
  (case i_NoRow_NoText => kit_is)
  (case i_NoRow_NoPair => kit_is)
  (case na_NoRow_row => k_is)
  (case na_Same_field => k_is)
  (case na_Like_field => k_is)
  (case na_Near_field => k_is)
  (case na_Other_field => k_is)
  (case na_Former_field => k_is)
  (case ca0_Rule_init => k_is)
  (case ca1_Rule_init => k_is)
  (case ca2_Rule_init => k_is)
  (case na_Former_weight => k_is)
  (case na_Like_weight => k_is)
  (case na_Near_weight => k_is)
  (case na_Other_weight => k_is)
  (case na_Same_weight => k_is)
  (case l_FIELDS => k_is)
  (case y_ValueError => k_is)
  (case y_all => k_is)
  (case y_bool => k_is)
  (case y_enumerate => k_is)
  (case y_int => k_is)
  (case y_isinstance => k_is)
  (case y_len => k_is)
  (case y_list => k_is)
  (case y_max => k_is)
  (case y_min => k_is)
  (case y_range => k_is)
  (case y_str => k_is)
  (case y_zip => k_is)
