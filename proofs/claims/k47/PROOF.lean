import PyProof.Rows.All
import Wide.All
import OpenK.AllK
import Wide.FinOn
import Lean
import PyProof.EqAt
import PyProof.EqKinds
import PyProof.TupleCall
import KE.KSortTup
import PySem.SetTable
import KE.KDictList
import PyProof.Rows.SeqMore
import PyProof.StrLawsIn
import PyProof.MeetsStr3
import PyProof.Rows.StrSplitMax
import KE.KDictLaws
import PyProof.Rows.CallKwBuiltin
import PyProof.ZipIter
import PyProof.Rows.ZipGen
import PyProof.Rows.StrWeight2
import KE.KDictSum
import KE.KTryMore
import PyProof.Rows.TopTwo
import PyProof.ExcBaseAll.ValueError
import KE.RegKIsAll
import KE.RegKTryMore
import PyProof.ExcAttrAll.ValueError
import KE.KSortKey
import KE.KItemsList
import PyProof.Rows.StrDouble
import PySem.Challenge.RW_folk_k47_what_a_group_tells
set_option genSizeOf false
set_option bootstrap.genMatcherCode false
noncomputable section
set_option Elab.async false
set_option linter.all false
set_option maxRecDepth 100000
namespace L2
open PySem PySem.Spec PyProof.Rows
noncomputable abbrev Key := Sum Int Str
noncomputable def zlr : Key -> Value -> Bool
 | .inl k, v => Value.isInt k v
 | .inr x, v => Value.isStrOf x v
noncomputable def keyH (w : World) : Key -> Int
 | .inl k => hashInt k
 | .inr x => hashStr w x
theorem zar : ∀ {k : Key} {v : Value}, zlr k v = true -> (∃ i t, k = Sum.inl i /\ v = Value.int i t) \/ (∃ x t, k = Sum.inr x /\ v = Value.str x t)
 | .inl i, v, h => by
  obtain ⟨t, e⟩ := Value.isInt_shape (k:=i) (v:=v) h
  exact .inl ⟨i, t, rfl, e⟩
 | .inr x, v, h => by
  obtain ⟨t, e⟩ := Value.isStrOf_shape (x:=x) (v:=v) h
  exact .inr ⟨x, t, rfl, e⟩
theorem zmo (i : Int) (t : Tok) : zlr (.inl i) (.int i t) = true := by simp [zlr, Value.isInt]
theorem zn1 (x : Str) (t : Tok) : zlr (.inr x) (.str x t) = true := by simp [zlr, Value.isStrOf]
theorem zuj (a b : Int) : decide ((Sum.inl a : Key) = Sum.inl b) = (a == b) := by
 by_cases e : a = b
 ·subst e; simp
 ·have h : ¬ (Sum.inl a : Key) = Sum.inl b := fun q => e (Sum.inl.inj q)
  rw [decide_eq_false h]
  exact (beq_eq_false_iff_ne.mpr e).symm
theorem zus (a b : Str) : decide ((Sum.inr a : Key) = Sum.inr b) = decide (a = b) := by
 by_cases e : a = b
 ·subst e; simp
 ·have h : ¬ (Sum.inr a : Key) = Sum.inr b := fun q => e (Sum.inr.inj q)
  rw [decide_eq_false h, decide_eq_false e]
theorem zup (a : Int) (b : Str) : decide ((Sum.inl a : Key) = Sum.inr b) = false := decide_eq_false (fun q => nomatch q)
theorem zuq (a : Str) (b : Int) : decide ((Sum.inr a : Key) = Sum.inl b) = false := decide_eq_false (fun q => nomatch q)
noncomputable def zak (prog : Program) (w : World) : PySem.KeyKind prog w Key where
 is := zlr
 hash := keyH w
 inj := fun v a b ha hb => by
  rcases zar ha with ⟨i, t, rfl, rfl⟩ | ⟨x, t, rfl, rfl⟩
  ·rcases zar hb with ⟨j, u, rfl, e⟩ | ⟨y, u, rfl, e⟩
   ·injection e with e1 _; rw [e1]
   ·exact nomatch e
  ·rcases zar hb with ⟨j, u, rfl, e⟩ | ⟨y, u, rfl, e⟩
   ·exact nomatch e
   ·injection e with e1 _; rw [e1]
 byValue := fun k v h => by
  rcases zar h with ⟨i, t, rfl, rfl⟩ | ⟨x, t, rfl, rfl⟩ <;> rfl
 pyHash := fun hv h => by
  rcases zar hv with ⟨i, t, rfl, rfl⟩ | ⟨x, t, rfl, rfl⟩
  ·exact wpAny_pyHash_int h
  ·exact wpAny_pyHash_str h
 eqBool := fun hu hv h => by
  rcases zar hu with ⟨i, t, rfl, rfl⟩ | ⟨x, t, rfl, rfl⟩
  ·rcases zar hv with ⟨j, u, rfl, rfl⟩ | ⟨y, u, rfl, rfl⟩
   ·rw [zuj] at h; exact wpAny_eqBool_int h
   ·rw [zup] at h; exact SeqAt.EqAt.int_str i t y u _ _ _ _ h
  ·rcases zar hv with ⟨j, u, rfl, rfl⟩ | ⟨y, u, rfl, rfl⟩
   ·rw [zuq] at h; exact SeqAt.EqAt.str_int x t j u _ _ _ _ h
   ·rw [zus] at h; exact wpAny_eqBool_str h
 «strs» := fun k x t v h => by
  rcases zar h with ⟨i, u, rfl, e⟩ | ⟨y, u, rfl, e⟩
  ·exact nomatch e
  ·injection e with e1 _
   subst e1
   cases v <;> rfl
theorem zf5 (prog : Program) (w : World) (i : Int) (t : Tok) : (zak prog w).is (.inl i) (.int i t) = true := zmo i t
theorem zf9 (prog : Program) (w : World) (x : Str) (t : Tok) : (zak prog w).is (.inr x) (.str x t) = true := zn1 x t
end L2
namespace L2
open PySem PySem.Spec PyProof.Rows
inductive V where
 | non | bl (b : Bool) | int (i : Int) | str (x : Str) | byt (b : Array UInt8) | flt (b : UInt64) | ref (a : Addr) | ty (n : String)
 deriving DecidableEq
noncomputable def RelV : V -> Value -> Prop
 | .non, u => u = Value.none
 | .bl b, u => u = Value.bool b
 | .int i, u => ∃ t, u = Value.int i t
 | .str x, u => ∃ t, u = Value.str x t
 | .byt b, u => ∃ t, u = Value.bytes b t
 | .flt b, u => ∃ t, u = Value.float b t
 | .ref a, u => u = Value.ref a
 | .ty n, u => u = Value.type n
noncomputable abbrev Vals : List V -> List Value -> Prop := Paired RelV
theorem Vals.length {xs : List V} {us : List Value} (r : Vals xs us) : xs.length = us.length := Paired.length r
theorem Vals.get : ∀ {xs : List V} {us : List Value} {i : Nat} {x : V}, Vals xs us -> xs[i]? = some x -> ∃ u, us[i]? = some u /\ RelV x u
 | _, _, _, _, .nil, e => by simp at e
 | _, _, 0, _, .cons r _, e => by simp at e; subst e; exact ⟨_, rfl, r⟩
 | _, _, i + 1, x, .cons _ t, e => by
  obtain ⟨u, h1, h2⟩ := Vals.get (i:=i) (x:=x) t (by simpa using e)
  exact ⟨u, by simpa using h1, h2⟩
theorem Vals.append : ∀ {xs ys : List V} {us ws : List Value}, Vals xs us -> Vals ys ws -> Vals (xs ++ ys) (us ++ ws)
 | _, _, _, _, .nil, s => s
 | _, _, _, _, .cons r t, s => .cons r (Vals.append t s)
theorem Vals.take : ∀ {xs : List V} {us : List Value} (n : Nat), Vals xs us -> Vals (xs.take n) (us.take n)
 | _, _, 0, _ => .nil
 | _, _, _ + 1, .nil => .nil
 | _, _, n + 1, .cons r t => .cons r (Vals.take n t)
theorem Vals.drop : ∀ {xs : List V} {us : List Value} (n : Nat), Vals xs us -> Vals (xs.drop n) (us.drop n)
 | _, _, 0, r => r
 | _, _, _ + 1, .nil => .nil
 | _, _, n + 1, .cons _ t => Vals.drop n t
noncomputable def RelO : Option V -> Option Value -> Prop
 | some v, some u => RelV v u
 | none, none => True
 | _, _ => False
noncomputable def KV {κ : Type} : List (κ × V) -> List (κ × Value) -> Prop := Paired fun (p : κ × V) (q : κ × Value) => p.1 = q.1 /\ RelV p.2 q.2
noncomputable def kV : Key -> V
 | .inl i => .int i
 | .inr x => .str x
inductive HO where
 /-- a list -/
 | lst (xs : List V)
 /-- a tuple (never changes) -/
 | tup (xs : List V)
 /-- a dict whose keys are ints and texts; one whose keys are tuples of ints and texts (the empty one is both) -/
 | dK (kvs : List (Key × V)) | dT (kvs : List (List Key × V))
 /-- a set of ints: its members, its size -/
 | set (S : Int -> Bool) (n : Nat)
 /-- an instance of the class at C, its dict at dx, its attributes -/
 | ins (C dx : Addr) (fs : List (Str × V))
 /-- the dict of the instance at x -/
 | own (x : Addr)
 /-- the dict of an exception -/
 | xd (fs : List (Str × V))
 /-- a bound method, f of x -/
 | met (f x : Addr)
 /-- a range object lo, lo + 1, .. below hi -/
 | rng (lo hi : Int)
 /-- a thing that is known to the object (the script; a dict while a loop walks it): read, never written while it is so -/
 | frz (o : Obj) (u : HO)
 /-- a code object's table -/
 | tbl (ps : Array Value)
 /-- any other thing, by what is true of its one object (a def of one's own: SetO a S n := HO.ext fun h => ..) -/
 | ext (φ : Heap -> Prop)
noncomputable abbrev Hp := Addr -> Option HO
noncomputable def upd (H : Hp) (a : Addr) (o : HO) : Hp := fun b => if b = a then some o else H b
theorem zah {H : Hp} {a : Addr} {o : HO} : upd H a o a = some o := by unfold upd; rw [if_pos rfl]
theorem zaj {H : Hp} {a b : Addr} {o : HO} (h : b ≠ a) : upd H a o b = H b := by unfold upd; rw [if_neg h]
theorem zal {H : Hp} {a b : Addr} {o : HO} (h : H a = some o) (h' : H b = none) : a ≠ b := by
 intro e; subst e; rw [h] at h'; cases h'
section
variable (P : Program) (w : World)
noncomputable def zb4 (H : Hp) (h : Heap) (a : Addr) : HO -> Prop
 | .lst xs => xs.length <= sizeLine /\ ∃ (its : List Value) (n : Nat), Vals xs its /\ h.get? a = some { cls := .type "list", data := .seq its.toArray n }
 | .tup xs => xs.length <= sizeLine /\ ∃ its : List Value, Vals xs its /\ IsTup h a its.toArray
 | .dK kvs => kvs.length <= sizeLine /\ (a == sysModules) = false /\ ∃ vs, KV kvs vs /\ h.DictOf (zak P w) a vs
 | .dT kvs => kvs.length <= sizeLine /\ (a == sysModules) = false /\ ∃ xs : List (List Key × Addr × Value),
   Paired (fun (p : List Key × V) (q : List Key × Addr × Value) => p.1 = q.1 /\ H q.2.1 = some (.tup (p.1.map kV)) /\ RelV p.2 q.2.2) kvs xs /\
   ∃ o es ep, h.get? a = some o /\ o.ExactDict /\ o.data = .dict es ep /\ es.toList = xs.map (entryOfKey (tupleKind (zak P w))) /\ (xs.map (·.1)).Nodup
 | .set S n => h.SetOf (intKind P w) a S n
 | .ins C dx fs => H dx = some (.own a) /\ fs.length <= 1000 /\ dx ≠ a /\ h.get? a = some (PySem.W.instObj C dx) /\
   ∃ mA, h.Ns1 dx mA /\ (∀ f, RelO (fs.lookup f) (mA f)) /\ PySem.Within mA (fs.map (·.1))
 | .own _ => ∃ o, h.get? a = some o
 | .xd fs => ∃ mA, h.Ns1 a mA /\ ∀ f, RelO (fs.lookup f) (mA f)
 | .rng lo hi => ∃ t u v, h.get? a = some { cls := .type "range", data := .fields #[.int lo t, .int hi u, .int 1 v] }
 | .frz o u => h.get? a = some o /\ zb4 H h a u
 | .tbl ps => h.get? a = some { cls := .none, data := .fields ps }
 | .met f x => h.get? a = some (PySem.W.methodObj (.ref f) (.ref x))
 | .ext φ => φ h /\ (∃ o, h.get? a = some o) /\ ∀ h1 h2 : Heap, φ h1 -> (∀ o, h1.get? a = some o -> h2.get? a = some o) -> φ h2
noncomputable def HOk (H : Hp) (h : Heap) : Prop := ∀ a o, H a = some o -> zb4 P w H h a o
end
section
variable {P : Program} {w : World} {H H' : Hp} {h h' : Heap} {a : Addr} {o : HO}
theorem zb4.lt (x : zb4 P w H h a o) : a < h.objs.size := by
 cases o with
 | lst xs => obtain ⟨_, _, _, _, e⟩ := x; exact Heap.lt_size e
 | tup xs => obtain ⟨_, _, _, p⟩ := x; exact p.lt
 | dK kvs => obtain ⟨_, _, _, _, o, _, _, e, _⟩ := x; exact Heap.lt_size e
 | dT kvs => obtain ⟨_, _, _, _, o, _, _, e, _⟩ := x; exact Heap.lt_size e
 | set S n => obtain ⟨o, _, _, _, e, _⟩ := x; exact Heap.lt_size e
 | ins C dx fs => obtain ⟨_, _, _, e, _⟩ := x; exact Heap.lt_size e
 | own y => obtain ⟨_, e⟩ := x; exact Heap.lt_size e
 | xd fs => obtain ⟨_, ⟨_, _, _, e, _⟩, _⟩ := x; exact Heap.lt_size e
 | rng lo hi => obtain ⟨_, _, _, e⟩ := x; exact Heap.lt_size e
 | frz ob u => obtain ⟨e, _⟩ := x; exact Heap.lt_size e
 | tbl ps => exact Heap.lt_size (show h.get? a = some _ from x)
 | met f y => exact Heap.lt_size (show h.get? a = some _ from x)
 | ext φ => obtain ⟨_, ⟨_, e⟩, _⟩ := x; exact Heap.lt_size e
theorem Paired.mapP {α β : Type} {F G : α -> β -> Prop} : ∀ {l₁ : List α} {l₂ : List β}, Paired F l₁ l₂ -> (∀ a b, F a b -> G a b) -> Paired G l₁ l₂
 | _, _, .nil, _ => .nil
 | _, _, .cons r t, f => .cons (f _ _ r) (Paired.mapP t f)
theorem zb4.stay (x : zb4 P w H h a o) (k : ∀ b u, (b = a \/ H b = some (.own a)) -> h.get? b = some u -> h'.get? b = some u)
  (ho : ∀ b, H b = some (.own a) -> H' b = some (.own a)) (ht : ∀ b xs, H b = some (.tup xs) -> H' b = some (.tup xs)) : zb4 P w H' h' a o := by
 induction o with
 | lst xs => obtain ⟨z, its, n, r, e⟩ := x; exact ⟨z, its, n, r, k _ _ (.inl rfl) e⟩
 | tup xs => obtain ⟨z, its, r, ob, e, c⟩ := x; exact ⟨z, its, r, ob, k _ _ (.inl rfl) e, c⟩
 | dK kvs => obtain ⟨z, y, vs, r, ob, es, ep, e, c⟩ := x; exact ⟨z, y, vs, r, ob, es, ep, k _ _ (.inl rfl) e, c⟩
 | dT kvs =>
  obtain ⟨z, y, xs, r, ob, es, ep, e, c⟩ := x
  exact ⟨z, y, xs, Paired.mapP r fun p q z => ⟨z.1, ht _ _ z.2.1, z.2.2⟩, ob, es, ep, k _ _ (.inl rfl) e, c⟩
 | set S n => obtain ⟨ob, es, ep, t, e, c⟩ := x; exact ⟨ob, es, ep, t, k _ _ (.inl rfl) e, c⟩
 | ins C dx fs =>
  obtain ⟨d, z, ne, e, mA, ⟨od, es, ep, e2, c⟩, r⟩ := x
  exact ⟨ho _ d, z, ne, k _ _ (.inl rfl) e, mA, ⟨od, es, ep, k _ _ (.inr d) e2, c⟩, r⟩
 | own y => obtain ⟨ob, e⟩ := x; exact ⟨ob, k _ _ (.inl rfl) e⟩
 | xd fs => obtain ⟨mA, ⟨od, es, ep, e, c⟩, r⟩ := x; exact ⟨mA, ⟨od, es, ep, k _ _ (.inl rfl) e, c⟩, r⟩
 | rng lo hi => obtain ⟨t, u, v, e⟩ := x; exact ⟨t, u, v, k _ _ (.inl rfl) e⟩
 | frz ob u ih => obtain ⟨e, q⟩ := x; exact ⟨k _ _ (.inl rfl) e, ih q⟩
 | tbl ps =>
  have e : h.get? a = some { cls := .none, data := .fields ps } := x
  show h'.get? a = some { cls := .none, data := .fields ps }
  exact k a _ (.inl rfl) e
 | met f y =>
  have e : h.get? a = some (PySem.W.methodObj (.ref f) (.ref y)) := x
  show h'.get? a = some (PySem.W.methodObj (.ref f) (.ref y))
  exact k a _ (.inl rfl) e
 | ext φ => obtain ⟨p, ⟨o, e⟩, st⟩ := x; exact ⟨st _ _ p fun o q => k _ _ (.inl rfl) q, ⟨o, k _ _ (.inl rfl) e⟩, st⟩
theorem HOk.lt (x : HOk P w H h) (e : H a = some o) : a < h.objs.size := (x a o e).lt
theorem HOk.fresh (x : HOk P w H h) (e : h.objs.size <= a) : H a = none := by
 cases q : H a with
 | none => rfl
 | some u => exact absurd (Nat.lt_of_lt_of_le (x.lt q) e) (Nat.lt_irrefl _)
theorem HOk.kept (x : HOk P w H h) (k : ∀ b u, h.get? b = some u -> h'.get? b = some u) : HOk P w H h' := fun a o e =>
 (x a o e).stay (fun b u _ q => k b u q) (fun _ q => q) fun _ _ q => q
theorem HOk.laid (x : HOk P w H h) (k : ∀ b u, h.get? b = some u -> h'.get? b = some u) (hp : h.objs.size <= a) (new : zb4 P w (upd H a o) h' a o) : HOk P w (upd H a o) h' := fun b u e => by
 have hn := x.fresh hp
 by_cases hb : b = a
 ·subst hb; rw [zah] at e; cases e; exact new
 ·rw [zaj hb] at e
  exact (x b u e).stay (fun c v _ q => k c v q) (fun c q => by rw [zaj (zal q hn)]; exact q) fun c xs q => by rw [zaj (zal q hn)]; exact q
end
noncomputable def Rd (H : Hp) (a : Addr) (u : HO) : Prop := H a = some u \/ ∃ o, H a = some (.frz o u)
theorem Rd.ok {P : Program} {w : World} {H : Hp} {h : Heap} {a : Addr} {u : HO} (r : Rd H a u) (x : HOk P w H h) : zb4 P w H h a u := by
 rcases r with r | ⟨o, r⟩
 ·exact x a u r
 ·obtain ⟨_, q⟩ := x a _ r
  exact q
noncomputable def Mut : Option HO -> Prop
 | some (.lst _) => True
 | some (.dK _) => True
 | some (.dT _) => True
 | some (.set _ _) => True
 | some (.ins _ _ _) => True
 | some (.ext _) => True
 | _ => False
section
variable {P : Program} {w : World} {H : Hp} {h h' : Heap} {x e : Addr} {o' : HO}
theorem HOk.write (ok : HOk P w H h) (mu : Mut (H x)) (he : e = x \/ H e = some (.own x)) (k : ∀ b u, b ≠ e -> h.get? b = some u -> h'.get? b = some u) (heo : ∃ u, h'.get? e = some u)
  (new : zb4 P w (upd H x o') h' x o') : HOk P w (upd H x o') h' := fun b u q => by
 have nown : ∀ c y, H c = some (.own y) -> c ≠ x := fun c y r z => by subst z; rw [r] at mu; exact mu
 have ntup : ∀ c xs, H c = some (.tup xs) -> c ≠ x := fun c xs r z => by subst z; rw [r] at mu; exact mu
 by_cases hb : b = x
 ·subst hb; rw [zah] at q; cases q; exact new
 ·rw [zaj hb] at q
  by_cases hbe : b = e
  ·have q' : H b = some (.own x) := by
    rcases he with z | z
    ·exact absurd (hbe.trans z) hb
    ·rw [hbe]; exact z
   rw [q] at q'; cases q'
   obtain ⟨v, hv⟩ := heo
   exact ⟨v, by rw [hbe]; exact hv⟩
  ·refine (ok b u q).stay (fun c v hc r => k c v ?_ r) (fun c r => by rw [zaj (nown c b r)]; exact r) fun c xs r => by rw [zaj (ntup c xs r)]; exact r
   rcases hc with rfl | hc
   ·exact hbe
   ·rintro rfl
    rcases he with z | z
    ·exact nown c b hc z
    ·rw [hc] at z; cases z; exact hb rfl
end
structure Un (fs ex : List Addr) (H H' : Hp) (h h' : Heap) : Prop where
 keep : ∀ b o, h.get? b = some o -> H b = none -> b ∉ fs -> b ∉ ex -> h'.get? b = some o
 slot : ∀ b o, h.get? b = some o -> H b = none -> b ∈ fs -> b ∉ ex -> ∃ sl, h'.get? b = some { o with slots := sl }
 free : ∀ b o, h.get? b = some o -> H b = none -> b ∉ ex -> H' b = none
 there : ∀ b o, h.get? b = some o -> b ∉ ex -> ∃ o', h'.get? b = some o'
 tups : ∀ b xs, H b = some (.tup xs) -> H' b = some (.tup xs)
 frzs : ∀ b o u, H b = some (.frz o u) -> H' b = some (.frz o u)
 tbls : ∀ b ps, H b = some (.tbl ps) -> ∃ more, H' b = some (.tbl (ps ++ more))
section
variable {fs fs' ex ex' : List Addr} {H H1 H2 : Hp} {h h1 h2 h' : Heap} {a x e : Addr} {o : HO}
theorem Un.any (u : Un fs ex H H1 h h1) {b : Addr} {ob : Obj} (q : h.get? b = some ob) (n : H b = none) (hx : b ∉ ex) : ∃ sl, h1.get? b = some { ob with slots := sl } := by
 by_cases hb : b ∈ fs
 ·exact u.slot b ob q n hb hx
 ·exact ⟨ob.slots, u.keep b ob q n hb hx⟩
theorem Un.kept (k : ∀ b u, h.get? b = some u -> h'.get? b = some u) : Un fs ex H H h h' :=
 ⟨fun b ob q _ _ _ => k b ob q, fun b ob q _ _ _ => ⟨ob.slots, k b ob q⟩, fun _ _ _ n _ => n, fun b ob q _ => ⟨ob, k b ob q⟩, fun _ _ q => q, fun _ _ _ q => q, fun _ ps q => ⟨#[], by rw [q]; simp⟩⟩
theorem Un.refl : Un fs ex H H h h := Un.kept fun _ _ q => q
theorem Un.laid (k : ∀ b u, h.get? b = some u -> h'.get? b = some u) (hp : h.objs.size <= a) (hn : H a = none) : Un fs ex H (upd H a o) h h' where
 keep := fun b u q _ _ _ => k b u q
 slot := fun b u q _ _ _ => ⟨u.slots, k b u q⟩
 free := fun b u q n _ => by rw [zaj (Nat.ne_of_lt (Nat.lt_of_lt_of_le (Heap.lt_size q) hp))]; exact n
 there := fun b u q _ => ⟨u, k b u q⟩
 tups := fun b xs q => by rw [zaj (zal q hn)]; exact q
 frzs := fun b u xs q => by rw [zaj (zal q hn)]; exact q
 tbls := fun b ps q => ⟨#[], by rw [zaj (zal q hn), q]; simp⟩
theorem Un.write (mu : Mut (H x)) (he : e = x \/ H e = some (.own x)) (k : ∀ b u, b ≠ e -> h.get? b = some u -> h'.get? b = some u) (heo : ∃ u, h'.get? e = some u) : Un fs ex H (upd H x o) h h' := by
 have hx : ∀ b, H b = none -> b ≠ x := fun b n z => by subst z; rw [n] at mu; exact mu
 have hb : ∀ b, H b = none -> b ≠ e := fun b n z => by
  subst z
  rcases he with r | r
  ·exact hx b n r
  ·rw [n] at r; cases r
 have hm : ∀ b u, H b = some u -> ¬ Mut (some u) -> b ≠ x := fun b u q nm z => by subst z; rw [q] at mu; exact nm mu
 refine ⟨fun b u q n _ _ => k b u (hb b n) q, fun b u q n _ _ => ⟨u.slots, k b u (hb b n) q⟩, fun b u q n _ => by rw [zaj (hx b n)]; exact n, fun b u q _ => ?_,
  fun b xs q => by rw [zaj (hm b _ q fun z => z)]; exact q, fun b u xs q => by rw [zaj (hm b _ q fun z => z)]; exact q, fun b ps q => ⟨#[], by rw [zaj (hm b _ q fun z => z), q]; simp⟩⟩
 by_cases hbe : b = e
 ·subst hbe; exact heo
 ·exact ⟨u, k b u hbe q⟩
end
noncomputable def trk (h : Heap) (H : Hp) : List Addr := (List.range h.objs.size).filter fun a => (H a).isSome
noncomputable def hidT (h : Heap) (H : Hp) : Heap := PySem.W.hideAll h (trk h H)
theorem znt (h : Heap) (H : Hp) : (hidT h H).objs.size = h.objs.size := PySem.W.hideAll_size _ _
theorem zqs {h : Heap} {H : Hp} {b : Addr} {o : Obj} (e : h.get? b = some o) (n : H b = none) : (hidT h H).get? b = some o :=
 PySem.W.hideAll_get _ e fun hm => by
  have q : (H b).isSome = true := (List.mem_filter.mp hm).2
  rw [n] at q; simp at q
theorem zru {h : Heap} {H : Hp} {b : Addr} {o : Obj} (e : (hidT h H).get? b = some o) : h.get? b = some o /\ H b = none := by
 have e' : h.get? b = some o := PySem.W.of_hideAll (trk h H) e
 refine ⟨e', ?_⟩
 cases q : H b with
 | none => rfl
 | some x =>
  have hm : b ∈ trk h H := List.mem_filter.mpr ⟨List.mem_range.mpr (Heap.lt_size e'), by simp [q]⟩
  have z : (hidT h H).get? b = none := PySem.W.hideAll_none (trk h H) hm
  rw [z] at e; cases e
noncomputable def ztc (g h : Heap) (L : Addr) : List (Addr × Obj) := (List.range h.objs.size).filterMap fun a => if a = L \/ (g.get? a).isSome = true then none else (h.get? a).map fun o => (a, o)
noncomputable def rest (g h : Heap) (L d : Addr) : List (Addr × Obj) := (ztc g h L).filter fun p => decide (p.1 ≠ d)
end L2
namespace L2
open PySem PySem.Spec PyProof.Rows
structure Mod (K : PySem.W.Frag) (mg : Str -> Option Value) (base : Heap) : Prop where
 kin : K.In base
 glob : base.Ns mainGlobals mg
 blt : ∃ mb, base.Ns builtinsNs mb /\ ∀ x : Str, x ≠ "__name__" -> mb x = bootBuiltins x
 nolimit : base.NoLimit
structure Cx where
 prog : Program
 w : World
 K : PySem.W.Frag
 mg : Str -> Option Value
 base : Heap
 A : Around
 N : List Str
 s₀ : Shared
 H₀ : Hp
 env : Env
 outer : List Env
 stack : List Env
 ex : List Addr
 fn : Str -> Bool
 calm : Bool
 pn : List (Addr × Obj)
 xe : Value -> Shared -> Prop
noncomputable def frs (l : List Env) : List Addr := l.filterMap (·.frame)
noncomputable abbrev Cx.fs (X : Cx) : List Addr := frs X.outer
noncomputable def Vis (sc : Scope) (x : Str) : Prop := sc.names.lookup x = some .local \/ sc.names.lookup x = some .cell \/ sc.names.lookup x = some .free
noncomputable def Loc (sc : Scope) (x : Str) : Prop := sc.names.lookup x = some .local \/ sc.names.lookup x = some .cell
noncomputable def Look (env : Env) (h : Heap) (m : Str -> Option Value) (x : Str) (u : Value) : Prop :=
 (env.kindOf x = some .local /\ m x = some u) \/ ((env.kindOf x = some .cell \/ env.kindOf x = some .free) /\ ∃ c, env.cells.lookup x = some c /\ h.IsCell c (some u))
structure Cx.Ok (X : Cx) : Prop where
 mod : Mod X.K X.mg X.base
 kind : X.env.scope.kind = .function
 glob : X.env.globals = mainGlobals
 blt : X.env.builtins = builtinsNs
 above : X.s₀.heap.objs.size <= X.env.locals
 inj : ∀ x y c, X.env.cells.lookup x = some c -> X.env.cells.lookup y = some c -> x = y
 has : ∀ x, (X.env.kindOf x = some .cell \/ X.env.kindOf x = some .free) -> ∃ c, X.env.cells.lookup x = some c
 cab : ∀ x c, X.fn x = true -> X.env.cells.lookup x = some c -> X.s₀.heap.objs.size <= c
 hd : X.calm = true -> X.A.handled = none
 frames : X.A.frames = some X.stack
 stk : X.stack = X.outer \/ (X.stack = X.env :: X.outer /\ X.env.frame = some X.env.locals)
 exf : ∀ b ∈ X.ex, b ≠ X.env.locals /\ ∀ x c, X.env.cells.lookup x = some c -> c ≠ b
 bs : ∀ b o, X.base.get? b = some o -> X.s₀.heap.get? b = some o /\ X.H₀ b = none
 bsz : X.base.objs.size <= X.s₀.heap.objs.size
 noex : ∀ b o, X.base.get? b = some o -> b ∉ X.ex
 exfs : ∀ b ∈ X.ex, b ∉ X.fs
 funs : X.s₀.heap.FunFrames X.base X.outer
 frf : ∀ b ∈ X.fs, X.H₀ b = none
structure Inv (X : Cx) (pins : List (Addr × Obj)) (σ : List (Option V)) (H : Hp) (s : Shared) : Prop where
 ok : X.Ok
 os : s.os = X.s₀.os
 bare : AllBare s.gens
 base : Un X.fs X.ex X.H₀ H X.s₀.heap s.heap
 loc : ∃ m, s.heap.Ns X.env.locals m /\ ∀ (i : Nat) (x : Str) (v : V), X.N[i]? = some x -> σ[i]? = some (some v) -> Vis X.env.scope x -> ∃ u, RelV v u /\ Look X.env s.heap m x u
 cell : ∀ x c, X.env.cells.lookup x = some c -> ∃ v, s.heap.IsCell c v
 free : H X.env.locals = none
 freeC : ∀ x c, X.env.cells.lookup x = some c -> H c = none
 pin : ∀ p ∈ X.pn ++ pins, s.heap.get? p.1 = some p.2 /\ H p.1 = none /\ p.1 ≠ X.env.locals /\ p.1 ∉ X.fs /\ ∀ v, p.2.data ≠ .cell v
 hok : HOk X.prog X.w H s.heap
 len : σ.length = X.N.length
section
variable {X : Cx} {pins : List (Addr × Obj)} {σ : List (Option V)} {H H' : Hp} {s : Shared} {h' : Heap}
theorem Cx.Ok.nofr (ok : X.Ok) {b : Addr} {o : Obj} (e : X.base.get? b = some o) : b ∉ X.fs := fun hb => by
 have := (ok.funs.mem hb).1
 rw [e] at this; cases this
theorem Inv.bs (I : Inv X pins σ H s) : ∀ b o, X.base.get? b = some o -> s.heap.get? b = some o /\ H b = none := fun b o e =>
 ⟨I.base.keep b o (I.ok.bs b o e).1 (I.ok.bs b o e).2 (I.ok.nofr e) (I.ok.noex b o e), I.base.free b o (I.ok.bs b o e).1 (I.ok.bs b o e).2 (I.ok.noex b o e)⟩
theorem Inv.bk (I : Inv X pins σ H s) : ∀ b o, X.base.get? b = some o -> s.heap.get? b = some o := fun b o e => (I.bs b o e).1
theorem Inv.mod (I : Inv X pins σ H s) : Mod X.K X.mg X.base := I.ok.mod
theorem Inv.kIn (I : Inv X pins σ H s) : X.K.In s.heap := I.ok.mod.kin.keeps I.bk
theorem Inv.fr (I : Inv X pins σ H s) : ∃ m, Fr X.base X.env.locals s.heap m :=
 let ⟨m, hn, _⟩ := I.loc
 ⟨m, hn, I.bk, Nat.le_trans I.ok.bsz I.ok.above⟩
theorem Inv.lt (I : Inv X pins σ H s) : X.env.locals < s.heap.objs.size := let ⟨_, hn, _⟩ := I.loc; hn.lt
theorem Inv.sz (I : Inv X pins σ H s) : X.s₀.heap.objs.size <= s.heap.objs.size := Nat.le_trans I.ok.above (Nat.le_of_lt I.lt)
theorem Inv.nofs (I : Inv X pins σ H s) {a : Addr} (h : s.heap.objs.size <= a) : a ∉ X.fs := fun hb => by
 obtain ⟨_, o, ho, _⟩ := I.ok.funs.mem hb
 exact absurd (Nat.lt_of_lt_of_le (Heap.lt_size ho) (Nat.le_trans I.sz h)) (Nat.lt_irrefl _)
theorem Inv.cne (I : Inv X pins σ H s) : ∀ x c, X.env.cells.lookup x = some c -> c ≠ X.env.locals := fun x c e z => by
 obtain ⟨v, o, ho, hd⟩ := I.cell x c e
 obtain ⟨m, ⟨o', es, ep, ho', hd', _⟩, _⟩ := I.loc
 rw [z, ho'] at ho; cases ho; rw [hd'] at hd; cases hd
theorem Inv.funs (I : Inv X pins σ H s) : s.heap.FunFrames X.base X.outer := by
 have all : ∀ (l : List Env), (∀ b ∈ frs l, b ∈ X.fs) -> X.s₀.heap.FunFrames X.base l -> s.heap.FunFrames X.base l := by
  intro l
  induction l with
  | nil => intro _ _; trivial
  | cons env r ih =>
   intro hs hl
   obtain ⟨hk, ⟨L, o, hf, hn, ho, hd⟩, hr⟩ := hl
   have hL : L ∈ X.fs := hs L (by unfold frs; rw [List.filterMap_cons, hf]; exact List.mem_cons_self)
   obtain ⟨sl, e⟩ := I.base.slot L o ho (I.ok.frf L hL) hL fun z => I.ok.exfs L z hL
   exact ⟨hk, ⟨L, _, hf, hn, e, hd⟩, ih (fun b hb => hs b (by unfold frs; rw [List.filterMap_cons, hf]; exact List.mem_cons_of_mem _ hb)) hr⟩
 exact all X.outer (fun _ hb => hb) I.ok.funs
theorem Inv.stack (I : Inv X pins σ H s) : s.heap.FunFrames X.base X.stack := by
 rcases I.ok.stk with e | ⟨e, hf⟩
 ·rw [e]; exact I.funs
 ·rw [e]
  obtain ⟨m, hn, _⟩ := I.loc
  refine .cons (by rw [I.ok.kind]; decide) hf hn ?_ I.funs
  exact Heap.get?_none_of_le (Nat.le_trans I.ok.bsz I.ok.above)
theorem Inv.stkSub (I : Inv X pins σ H s) : ∀ b ∈ frs X.stack, b ∈ X.env.locals :: X.fs := fun b hb => by
 rcases I.ok.stk with e | ⟨e, hf⟩
 ·rw [e] at hb; exact List.mem_cons_of_mem _ hb
 ·rw [e] at hb
  unfold frs at hb
  rw [List.filterMap_cons, hf] at hb
  exact hb
theorem Inv.stkFree (I : Inv X pins σ H s) : ∀ b ∈ frs X.stack, H b = none := fun b hb => by
 rcases List.mem_cons.mp (I.stkSub b hb) with e | hb
 ·rw [e]; exact I.free
 ·obtain ⟨_, o, ho, _⟩ := I.ok.funs.mem hb
  exact I.base.free b o ho (I.ok.frf b hb) fun z => I.ok.exfs b z hb
theorem Inv.step {g' : Array GenState} {t' : Nat} {d' : Drawn} {ch : List Addr} (I : Inv X pins σ H s)
  (hch : ∀ b ∈ ch, (b ∈ X.ex \/ X.s₀.heap.objs.size <= b) /\ b ≠ X.env.locals /\ (∀ x c, X.env.cells.lookup x = some c -> c ≠ b) /\ ∀ p ∈ X.pn ++ pins, p.1 ≠ b)
  (keep : ∀ b o, b ≠ X.env.locals -> b ∉ X.fs -> b ∉ ch -> s.heap.get? b = some o -> H b = none -> h'.get? b = some o)
  (slot : ∀ b o, b ≠ X.env.locals -> b ∈ X.fs -> b ∉ ch -> s.heap.get? b = some o -> H b = none -> ∃ sl, h'.get? b = some { o with slots := sl }) (free : ∀ b o, b ∉ ch -> s.heap.get? b = some o -> H b = none -> H' b = none)
  (there : ∀ b o, b ∉ ch -> s.heap.get? b = some o -> ∃ o', h'.get? b = some o')
  (tups : ∀ b xs, H b = some (.tup xs) -> H' b = some (.tup xs)) (frzs : ∀ b o u, H b = some (.frz o u) -> H' b = some (.frz o u)) (tbls : ∀ b ps, H b = some (.tbl ps) -> ∃ more, H' b = some (.tbl (ps ++ more)))
  (ns : ∀ m, s.heap.Ns X.env.locals m -> h'.Ns X.env.locals m) (hok : HOk X.prog X.w H' h') (hg : AllBare g') :
  Inv X pins σ H' { s with heap := h', gens := g', drawn := d', toks := t' } := by
 have neL : ∀ b o, X.s₀.heap.get? b = some o -> b ≠ X.env.locals := fun b o e => Nat.ne_of_lt (Nat.lt_of_lt_of_le (Heap.lt_size e) I.ok.above)
 have neC : ∀ b o, X.s₀.heap.get? b = some o -> b ∉ X.ex -> b ∉ ch := fun b o e hx hb => by
  rcases (hch b hb).1 with z | z
  ·exact hx z
  ·exact absurd (Nat.lt_of_lt_of_le (Heap.lt_size e) z) (Nat.lt_irrefl _)
 have cellK : ∀ x c, X.env.cells.lookup x = some c -> ∀ v, s.heap.IsCell c v -> h'.IsCell c v := fun x c e v ⟨o, ho, hd⟩ => by
  have nch : c ∉ ch := fun z => (hch c z).2.2.1 x c e rfl
  by_cases hc : c ∈ X.fs
  ·obtain ⟨sl, q⟩ := slot c o (I.cne x c e) hc nch ho (I.freeC x c e)
   exact ⟨_, q, hd⟩
  ·exact ⟨o, keep c o (I.cne x c e) hc nch ho (I.freeC x c e), hd⟩
 refine ⟨I.ok, I.os, hg, ⟨fun b o e n hb hx => ?_, fun b o e n hb hx => ?_, fun b o e n hx => ?_, fun b o e hx => ?_, fun b xs e => tups b xs (I.base.tups b xs e), fun b o xs e => frzs b o xs (I.base.frzs b o xs e), fun b ps e => ?_⟩, ?_, fun x c e => ?_, ?_, fun x c e => ?_, fun p hp => ?_, hok, I.len⟩
 ·exact keep b o (neL b o e) hb (neC b o e hx) (I.base.keep b o e n hb hx) (I.base.free b o e n hx)
 ·obtain ⟨sl, e1⟩ := I.base.slot b o e n hb hx
  obtain ⟨sl', e2⟩ := slot b _ (neL b o e) hb (neC b o e hx) e1 (I.base.free b o e n hx)
  exact ⟨sl', e2⟩
 ·obtain ⟨o', e1⟩ := I.base.there b o e hx
  exact free b o' (neC b o e hx) e1 (I.base.free b o e n hx)
 ·obtain ⟨o', e1⟩ := I.base.there b o e hx
  exact there b o' (neC b o e hx) e1
 ·obtain ⟨m1, e1⟩ := I.base.tbls b ps e
  obtain ⟨m2, e2⟩ := tbls b _ e1
  exact ⟨m1 ++ m2, by rw [e2, Array.append_assoc]⟩
 ·obtain ⟨m, hn, hl⟩ := I.loc
  refine ⟨m, ns m hn, fun i x v e1 e2 e3 => ?_⟩
  obtain ⟨u, r, l⟩ := hl i x v e1 e2 e3
  refine ⟨u, r, ?_⟩
  rcases l with l | ⟨k, c, e, z⟩
  ·exact .inl l
  ·exact .inr ⟨k, c, e, cellK x c e _ z⟩
 ·obtain ⟨v, z⟩ := I.cell x c e
  exact ⟨v, cellK x c e v z⟩
 ·obtain ⟨m, ⟨o, _, _, ho, _⟩, _⟩ := I.loc
  exact free _ o (fun z => (hch _ z).2.1 rfl) ho I.free
 ·obtain ⟨v, o, ho, hd⟩ := I.cell x c e
  exact free c o (fun z => (hch c z).2.2.1 x c e rfl) ho (I.freeC x c e)
 ·obtain ⟨e, n, ne, nf, d⟩ := I.pin p hp
  have nch : p.1 ∉ ch := fun z => (hch p.1 z).2.2.2 p hp rfl
  exact ⟨keep p.1 p.2 ne nf nch e n, free p.1 p.2 nch e n, ne, nf, d⟩
theorem Inv.un {t' : Nat} (I : Inv X pins σ H s) (u : Un X.fs [] H H' s.heap h') (hok : HOk X.prog X.w H' h') : Inv X pins σ H' { s with heap := h', toks := t' } := by
 obtain ⟨m, ⟨o, es, ep, ho, r⟩, _⟩ := id I.loc
 obtain ⟨sl, hL⟩ := u.any ho I.free (by simp)
 exact I.step (g':=s.gens) (d':=s.drawn) (ch:=[]) (fun _ z => nomatch z) (fun b o _ hb _ e n => u.keep b o e n hb (by simp)) (fun b o _ hb _ e n => u.slot b o e n hb (by simp)) (fun b o _ e n => u.free b o e n (by simp)) (fun b o _ e => u.there b o e (by simp)) u.tups u.frzs u.tbls (fun m' hm => by
  obtain ⟨o', es', ep', ho', r'⟩ := hm
  rw [ho] at ho'; cases ho'
  exact ⟨_, es', ep', hL, r'⟩) hok I.bare
theorem Inv.call {g' : Array GenState} {t' : Nat} {d' : Drawn} {ch : List Addr} (I : Inv X pins σ H s) (u : Un (frs X.stack) ch H H' s.heap h') (hok : HOk X.prog X.w H' h') (hg : AllBare g')
  (hch : ∀ b ∈ ch, (b ∈ X.ex \/ X.s₀.heap.objs.size <= b) /\ b ≠ X.env.locals /\ (∀ x c, X.env.cells.lookup x = some c -> c ≠ b) /\ ∀ p ∈ X.pn ++ pins, p.1 ≠ b) :
  Inv X pins σ H' { s with heap := h', gens := g', drawn := d', toks := t' } := by
 obtain ⟨m, ⟨o, es, ep, ho, r⟩, _⟩ := id I.loc
 obtain ⟨sl, hL⟩ := u.any ho I.free fun z => (hch _ z).2.1 rfl
 exact I.step (ch:=ch) hch (fun b o hL hb hc e n => u.keep b o e n (fun z => (List.mem_cons.mp (I.stkSub b z)).elim hL hb) hc) (fun b o _ _ hc e n => u.any e n hc) (fun b o hc e n => u.free b o e n hc) (fun b o hc e => u.there b o e hc) u.tups u.frzs u.tbls (fun m' hm => by
  obtain ⟨o', es', ep', ho', r'⟩ := hm
  rw [ho] at ho'; cases ho'
  exact ⟨_, es', ep', hL, r'⟩) hok hg
theorem Inv.turned {t' : Nat} {it : Addr} (I : Inv X pins σ H s) (k : ∀ b o, b ≠ it -> s.heap.get? b = some o -> h'.get? b = some o) (hn : H it = none) (hL : it ≠ X.env.locals)
  (h1 : it ∈ X.ex \/ X.s₀.heap.objs.size <= it) (h2 : ∀ x c, X.env.cells.lookup x = some c -> c ≠ it) (h3 : ∀ p ∈ X.pn ++ pins, p.1 ≠ it) : Inv X pins σ H { s with heap := h', toks := t' } := by
 have nit : ∀ b u, H b = some u -> b ≠ it := fun b u e z => by rw [z, hn] at e; cases e
 refine I.step (g':=s.gens) (d':=s.drawn) (ch:=[it]) (fun b hb => ?_) (fun b o _ _ hc e _ => k b o (fun z => hc (by simp [z])) e) (fun b o _ _ hc e _ => ⟨o.slots, k b o (fun z => hc (by simp [z])) e⟩) (fun _ _ _ _ n => n)
  (fun b o hc e => ⟨o, k b o (fun z => hc (by simp [z])) e⟩) (fun _ _ e => e) (fun _ _ _ e => e) (fun b ps e => ⟨#[], by rw [e]; simp⟩) (fun m hm => ?_) (fun b u e => ?_) I.bare
 ·have e : b = it := by simpa using hb
  subst e
  exact ⟨h1, hL, h2, h3⟩
 ·obtain ⟨o, es, ep, ho, r⟩ := hm
  exact ⟨o, es, ep, k _ o (Ne.symm hL) ho, r⟩
 ·refine (I.hok b u e).stay (fun c v hc q => k c v ?_ q) (fun _ q => q) fun _ _ q => q
  rcases hc with z | z
  ·rw [z]; exact nit b u e
  ·exact nit c _ z
theorem Inv.tok (I : Inv X pins σ H s) (t : Nat) : Inv X pins σ H { s with toks := t } := I.un (h':=s.heap) (t':=t) Un.refl I.hok
theorem Inv.kept {t' : Nat} (I : Inv X pins σ H s) (k : ∀ b u, s.heap.get? b = some u -> h'.get? b = some u) : Inv X pins σ H { s with heap := h', toks := t' } := I.un (Un.kept k) (I.hok.kept k)
theorem Inv.laid {a : Addr} {o : HO} {t' : Nat} (I : Inv X pins σ H s) (k : ∀ b u, s.heap.get? b = some u -> h'.get? b = some u) (hp : s.heap.objs.size <= a) (new : zb4 X.prog X.w (upd H a o) h' a o) :
  Inv X pins σ (upd H a o) { s with heap := h', toks := t' } := I.un (Un.laid k hp (I.hok.fresh hp)) (I.hok.laid k hp new)
theorem Inv.write {x e : Addr} {o : HO} {t' : Nat} (I : Inv X pins σ H s) (mu : Mut (H x)) (he : e = x \/ H e = some (.own x)) (k : ∀ b u, b ≠ e -> s.heap.get? b = some u -> h'.get? b = some u) (heo : ∃ u, h'.get? e = some u)
  (new : zb4 X.prog X.w (upd H x o) h' x o) : Inv X pins σ (upd H x o) { s with heap := h', toks := t' } := I.un (Un.write mu he k heo) (I.hok.write mu he k heo new)
theorem Inv.weak {σ' : List (Option V)} (I : Inv X pins σ H s) (hl : σ'.length = σ.length) (w : ∀ (i : Nat) v, σ'[i]? = some (some v) -> σ[i]? = some (some v)) : Inv X pins σ' H s :=
 ⟨I.ok, I.os, I.bare, I.base, let ⟨m, hn, hl'⟩ := I.loc; ⟨m, hn, fun i x v e1 e2 e3 => hl' i x v e1 (w i v e2) e3⟩, I.cell, I.free, I.freeC, I.pin, I.hok, hl.trans I.len⟩
theorem Inv.pins_of {pins' : List (Addr × Obj)} (I : Inv X pins σ H s) (h : ∀ p ∈ pins', s.heap.get? p.1 = some p.2 /\ H p.1 = none /\ p.1 ≠ X.env.locals /\ p.1 ∉ X.fs /\ ∀ v, p.2.data ≠ .cell v) : Inv X pins' σ H s :=
 ⟨I.ok, I.os, I.bare, I.base, I.loc, I.cell, I.free, I.freeC, fun p hp => (List.mem_append.mp hp).elim (fun z => I.pin p (List.mem_append_left _ z)) (h p), I.hok, I.len⟩
theorem zk7 {N : List Str} (hN : N.Nodup) {i j : Nat} {x : Str} (a : N[i]? = some x) (b : N[j]? = some x) : i = j := by
 obtain ⟨h1, e1⟩ := List.getElem?_eq_some_iff.mp a
 obtain ⟨h2, e2⟩ := List.getElem?_eq_some_iff.mp b
 exact (List.getElem_inj hN).mp (e1.trans e2.symm)
theorem zil {M : Model} {A : Around} {E : Value -> Shared -> Prop} {i : Nat} {x : Str} {v : V} {u : Value} {Q : Unit -> Shared -> Prop} (I : Inv X pins σ H s) (hN : X.N.Nodup) (hi : X.N[i]? = some x) (hx : Loc X.env.scope x) (r : RelV v u)
  (h : ∀ s', Inv X pins (σ.set i (some v)) H s' -> (∃ a, Heap.SameBut a s.heap s'.heap /\ (a = X.env.locals \/ X.env.cells.lookup x = some a)) -> Q () s') (hf : X.fn x = true \/ X.env.scope.names.lookup x = some .local := by first | exact .inl rfl | exact .inr rfl | assumption) : wpAny M A (storeName X.env x u) Q E s := by
 obtain ⟨m, hn, hl⟩ := id I.loc
 have hcls : (X.env.scope.kind == .class || (X.env.scope.kind == .module && X.env.locals != X.env.globals)) = false := by rw [I.ok.kind]; rfl
 have hiσ : i < σ.length := by rw [I.len]; exact (List.getElem?_eq_some_iff.mp hi).1
 have cne := I.cne
 have tracked : ∀ {a : Addr} {h' : Heap}, (∃ o, s.heap.get? a = some o /\ H a = none) -> Heap.SameBut a s.heap h' -> HOk X.prog X.w H h' := fun {a h'} ha hs b ob e => by
  obtain ⟨_, _, hfree⟩ := ha
  refine (I.hok b ob e).stay (fun c w' hc q => (hs.2 c ?_).trans q) (fun _ q => q) fun _ _ q => q
  rintro rfl
  rcases hc with rfl | hc
  ·rw [hfree] at e; cases e
  ·rw [hfree] at hc; cases hc
 rcases hx with hk | hk
 ·refine wpAny_storeName_local hk hn (fun h' hn' hs => ?_) hcls
  obtain ⟨oL, _, _, hoL, _⟩ := id hn
  refine h _ ⟨I.ok, I.os, I.bare, ⟨fun b o e n hb hx => ?_, fun b o e n hb hx => ?_, I.base.free, fun b o e hx => ?_, I.base.tups, I.base.frzs, I.base.tbls⟩, ⟨_, hn', fun j y v' e1 e2 e3 => ?_⟩, fun y c e => ?_, I.free, I.freeC, fun p hp => ?_, tracked ⟨oL, hoL, I.free⟩ hs, by simpa using I.len⟩ ⟨_, hs, .inl rfl⟩
  ·exact (hs.2 b (Nat.ne_of_lt (Nat.lt_of_lt_of_le (Heap.lt_size e) I.ok.above))).trans (I.base.keep b o e n hb hx)
  ·obtain ⟨sl, e1⟩ := I.base.slot b o e n hb hx
   exact ⟨sl, (hs.2 b (Nat.ne_of_lt (Nat.lt_of_lt_of_le (Heap.lt_size e) I.ok.above))).trans e1⟩
  ·obtain ⟨o', e1⟩ := I.base.there b o e hx
   exact ⟨o', (hs.2 b (Nat.ne_of_lt (Nat.lt_of_lt_of_le (Heap.lt_size e) I.ok.above))).trans e1⟩
  ·by_cases hj : j = i
   ·subst hj
    rw [hi] at e1; cases e1
    rw [List.getElem?_set_self hiσ] at e2
    cases e2
    exact ⟨u, r, .inl ⟨hk, by simp⟩⟩
   ·rw [List.getElem?_set_ne (Ne.symm hj)] at e2
    obtain ⟨u', r', q⟩ := hl j y v' e1 e2 e3
    refine ⟨u', r', ?_⟩
    rcases q with ⟨k, e⟩ | ⟨k, c, e, z⟩
    ·refine .inl ⟨k, ?_⟩
     have : y ≠ x := fun e => hj (zk7 hN e1 (e ▸ hi))
     simp [this, e]
    ·exact .inr ⟨k, c, e, z.sameBut hs (cne y c e)⟩
  ·obtain ⟨w', z⟩ := I.cell y c e
   exact ⟨w', z.sameBut hs (cne y c e)⟩
  ·obtain ⟨e, n, ne, nf, d⟩ := I.pin p hp
   exact ⟨(hs.2 p.1 ne).trans e, n, ne, nf, d⟩
 ·have hfn : X.fn x = true := by
   rcases hf with z | z
   ·exact z
   ·rw [z] at hk; cases hk
  obtain ⟨c, hc⟩ := I.ok.has x (.inl hk)
  obtain ⟨w', z⟩ := I.cell x c hc
  refine wpAny_storeName_cell I.ok.kind hk hc z (fun h' hc' hs => ?_)
  obtain ⟨oc, hoc, hocd⟩ := id z
  refine h { s with heap := h' } ⟨I.ok, I.os, I.bare, ⟨fun b o e n hb hx => ?_, fun b o e n hb hx => ?_, I.base.free, fun b o e hx => ?_, I.base.tups, I.base.frzs, I.base.tbls⟩, ⟨m, hn.sameBut hs (Ne.symm (cne x c hc)), fun j y v' e1 e2 e3 => ?_⟩, fun y c' e => ?_, I.free, I.freeC, fun p hp => ?_, tracked ⟨oc, hoc, I.freeC x c hc⟩ hs, by simpa using I.len⟩ ⟨c, hs, .inr hc⟩
  ·exact (hs.2 b (Nat.ne_of_lt (Nat.lt_of_lt_of_le (Heap.lt_size e) (I.ok.cab x c hfn hc)))).trans (I.base.keep b o e n hb hx)
  ·obtain ⟨sl, e1⟩ := I.base.slot b o e n hb hx
   exact ⟨sl, (hs.2 b (Nat.ne_of_lt (Nat.lt_of_lt_of_le (Heap.lt_size e) (I.ok.cab x c hfn hc)))).trans e1⟩
  ·obtain ⟨o', e1⟩ := I.base.there b o e hx
   exact ⟨o', (hs.2 b (Nat.ne_of_lt (Nat.lt_of_lt_of_le (Heap.lt_size e) (I.ok.cab x c hfn hc)))).trans e1⟩
  ·by_cases hj : j = i
   ·subst hj
    rw [hi] at e1; cases e1
    rw [List.getElem?_set_self hiσ] at e2
    cases e2
    exact ⟨u, r, .inr ⟨.inl hk, c, hc, hc'⟩⟩
   ·rw [List.getElem?_set_ne (Ne.symm hj)] at e2
    obtain ⟨u', r', q⟩ := hl j y v' e1 e2 e3
    refine ⟨u', r', ?_⟩
    rcases q with q | ⟨k, c', e, z'⟩
    ·exact .inl q
    ·refine .inr ⟨k, c', e, z'.sameBut hs ?_⟩
     rintro rfl
     exact hj (zk7 hN e1 (I.ok.inj _ _ _ e hc ▸ hi))
  ·by_cases hcc : c' = c
   ·subst hcc; exact ⟨_, hc'⟩
   ·obtain ⟨w2, z2⟩ := I.cell y c' e
    exact ⟨w2, z2.sameBut hs hcc⟩
  ·obtain ⟨e, n, ne, nf, d⟩ := I.pin p hp
   refine ⟨(hs.2 p.1 ?_).trans e, n, ne, nf, d⟩
   intro q
   rw [q, hoc] at e
   have q' : oc = p.2 := Option.some.inj e
   exact d w' (by rw [<- q']; exact hocd)
theorem zlj {M : Model} {A : Around} {E : Value -> Shared -> Prop} {i : Nat} {x : Str} {v : V} {u : Value} {Q : Unit -> Shared -> Prop} (I : Inv X pins σ H s) (hN : X.N.Nodup) (hi : X.N[i]? = some x) (hx : Loc X.env.scope x) (r : RelV v u)
  (h : ∀ s', Inv X pins (σ.set i (some v)) H s' -> Q () s') (hf : X.fn x = true \/ X.env.scope.names.lookup x = some .local := by first | exact .inl rfl | exact .inr rfl | assumption) : wpAny M A (storeName X.env x u) Q E s :=
 zil I hN hi hx r (fun s' I' _ => h s' I') hf
theorem Inv.call' {s' : Shared} {ch : List Addr} (I : Inv X pins σ H s) (ho : s'.os = s.os) (u : Un (frs X.stack) ch H H' s.heap s'.heap) (hok : HOk X.prog X.w H' s'.heap) (hg : AllBare s'.gens)
  (hch : ∀ b ∈ ch, (b ∈ X.ex \/ X.s₀.heap.objs.size <= b) /\ b ≠ X.env.locals /\ (∀ x c, X.env.cells.lookup x = some c -> c ≠ b) /\ ∀ p ∈ X.pn ++ pins, p.1 ≠ b) : Inv X pins σ H' s' := by
 obtain ⟨h', g', d', t', o'⟩ := s'
 have e : o' = s.os := ho
 subst e
 exact I.call (g':=g') (t':=t') (d':=d') u hok hg hch
end
noncomputable abbrev XK := Value -> Option Addr -> Hp -> Prop
noncomputable abbrev St := List (Option V)
noncomputable abbrev VK := V -> Hp -> Prop
noncomputable abbrev TE := St -> Hp -> VK -> Prop
noncomputable abbrev TT := St -> Hp -> (Bool -> Hp -> Prop) -> Prop
noncomputable abbrev TA := St -> Hp -> (List V -> Hp -> Prop) -> Prop
structure Ends where
 nx : St -> Hp -> Prop
 rt : VK
 bk : St -> Hp -> Prop := fun _ _ => False
 ct : St -> Hp -> Prop := fun _ _ => False
noncomputable abbrev TS := Ends -> St -> Hp -> Prop
noncomputable def EP (X : Cx) (pins : List (Addr × Obj)) (σ : St) (Q : VK) (u : Value) (s' : Shared) : Prop := ∃ v H', Inv X pins σ H' s' /\ RelV v u /\ Q v H'
noncomputable def TP (X : Cx) (pins : List (Addr × Obj)) (σ : St) (Q : Bool -> Hp -> Prop) (b : Bool) (s' : Shared) : Prop := ∃ H', Inv X pins σ H' s' /\ Q b H'
noncomputable def AP (X : Cx) (pins : List (Addr × Obj)) (σ : St) (Q : List V -> Hp -> Prop) (us : List Value) (s' : Shared) : Prop := ∃ vs H', Inv X pins σ H' s' /\ Vals vs us /\ Q vs H'
noncomputable def SP (X : Cx) (pins : List (Addr × Obj)) (D : Ends) (f : Flow) (s' : Shared) : Prop :=
 match f with
 | .next => ∃ σ' H', Inv X pins σ' H' s' /\ D.nx σ' H'
 | .brk => ∃ σ' H', Inv X pins σ' H' s' /\ D.bk σ' H'
 | .cont => ∃ σ' H', Inv X pins σ' H' s' /\ D.ct σ' H'
 | .ret u => ∃ v σ' H', Inv X pins σ' H' s' /\ RelV v u /\ D.rt v H'
noncomputable def PE (X : Cx) (e : Expr) (t : TE) : Prop :=
 ∀ (pins : List (Addr × Obj)) (s : Shared) (σ : St) (H : Hp) (Q : VK), Inv X pins σ H s -> t σ H Q -> wpAny (model X.prog X.w) X.A (eval e X.env) (EP X pins σ Q) X.xe s
noncomputable def PT (X : Cx) (e : Expr) (t : TT) : Prop :=
 ∀ (pins : List (Addr × Obj)) (s : Shared) (σ : St) (H : Hp) (Q : Bool -> Hp -> Prop), Inv X pins σ H s -> t σ H Q -> wpAny (model X.prog X.w) X.A (isTrue e X.env (eval e X.env)) (TP X pins σ Q) X.xe s
noncomputable def PW (X : Cx) (e : Expr) (t : TT) : Prop :=
 ∀ (whole : Sem Value) (pins : List (Addr × Obj)) (s : Shared) (σ : St) (H : Hp) (Q : Bool -> Hp -> Prop), Inv X pins σ H s -> t σ H Q -> wpAny (model X.prog X.w) X.A (isTrue e X.env whole) (TP X pins σ Q) X.xe s
theorem PW.pt {X : Cx} {e : Expr} {t : TT} (h : PW X e t) : PT X e t := h _
noncomputable def PA (X : Cx) (es : List Expr) (t : TA) : Prop :=
 ∀ (pos : Pos) (pins : List (Addr × Obj)) (s : Shared) (σ : St) (H : Hp) (Q : List V -> Hp -> Prop), Inv X pins σ H s -> t σ H Q -> wpAny (model X.prog X.w) X.A (spliced (backTo pos (starEach es X.env))) (AP X pins σ Q) X.xe s
noncomputable def PS (X : Cx) (st : Stmt) (t : TS) : Prop :=
 ∀ (pins : List (Addr × Obj)) (s : Shared) (σ : St) (H : Hp) (D : Ends), Inv X pins σ H s -> t D σ H -> wpAny (model X.prog X.w) X.A (exec st X.env) (SP X pins D) X.xe s
noncomputable def PSs (X : Cx) (st : List Stmt) (t : TS) : Prop :=
 ∀ (pins : List (Addr × Obj)) (s : Shared) (σ : St) (H : Hp) (D : Ends), Inv X pins σ H s -> t D σ H -> wpAny (model X.prog X.w) X.A (execs st X.env) (SP X pins D) X.xe s
theorem thn {α : Type} {t : Sem α} {Q Q' : α -> Shared -> Prop} {M : Model} {A : Around} {E : Value -> Shared -> Prop} {s : Shared} (h : wpAny M A t Q E s) (hQ : ∀ a s, Q a s -> Q' a s) : wpAny M A t Q' E s := wpAny_mono h hQ fun _ _ x => x
end L2
namespace L2
open PySem PySem.Spec PyProof.Rows
section
variable {X : Cx}
noncomputable def tVar (i : Nat) : TE := fun σ H Q => ∃ v, σ[i]? = some (some v) /\ Q v H
noncomputable def tC (v : V) : TE := fun _ H Q => Q v H
theorem zua {i : Nat} {x : Str} {pos : Pos} (hN : X.N[i]? = some x) (hv : Vis X.env.scope x) (hd : (x == ("__debug__" : Str)) = false := by decide) (hcd : (x == ("__classdict__" : Str)) = false := by decide) : PE X (.Name x pos) (tVar i) := by
 intro pins s σ H Q I h
 obtain ⟨v, e, h⟩ := h
 obtain ⟨m, hn, hl⟩ := I.loc
 obtain ⟨u, r, l⟩ := hl i x v hN e hv
 have fin : EP X pins σ Q u s := ⟨v, H, I, r, h⟩
 rcases l with ⟨hk, hm⟩ | ⟨hk, c, hc, hcell⟩
 ·exact wpAny_Name (wpAny_loadName_local I.ok.kind hk hn hm fin) hd
 ·rcases hk with hk | hk
  ·exact wpAny_Name (wpAny_loadName_cell I.ok.kind hk hc hcell fin) hd
  ·exact wpAny_Name (wpAny_loadName_free I.ok.kind hk hc hcell fin hcd) hd
theorem zaf {i j pos} : PE X (.Constant (.int i) j pos) (tC (.int i)) := fun _ _ _ H _ I h => wpAny_Constant_int ⟨.int i, H, I.tok _, ⟨_, rfl⟩, h⟩
theorem znp {b j pos} : PE X (.Constant (.bool b) j pos) (tC (.bl b)) := fun _ _ _ H _ I h => Constant_bool ⟨.bl b, H, I, rfl, h⟩
theorem zbu {x j pos} : PE X (.Constant (.str x) j pos) (tC (.str x)) := fun _ _ _ H _ I h => Calls.Constant_str ⟨.str x, H, I.tok _, ⟨_, rfl⟩, h⟩
noncomputable def Gl (X : Cx) (x : Str) : Prop := X.env.kindOf x = some .globalImplicit
theorem zod {E : Value -> Shared -> Prop} {pins : List (Addr × Obj)} {s : Shared} {σ : St} {H : Hp} {x : Str} {u : Value} {pos : Pos} {Q : Value -> Shared -> Prop} (I : Inv X pins σ H s) (hg : Gl X x) (hm : X.mg x = some u) (h : Q u s)
  (hd : (x == ("__debug__" : Str)) = false := by decide) : wpAny (model X.prog X.w) X.A (eval (.Name x pos) X.env) Q E s :=
 Calls.Name_function_global I.ok.kind hg (Calls.loadGlobal_global (by rw [I.ok.glob]; exact I.mod.glob.keeps I.bk) hm h) hd
theorem zgo {E : Value -> Shared -> Prop} {pins : List (Addr × Obj)} {s : Shared} {σ : St} {H : Hp} {x : Str} {u : Value} {pos : Pos} {Q : Value -> Shared -> Prop} (I : Inv X pins σ H s) (hg : Gl X x) (hm : X.mg x = none) (hv : bootBuiltins x = some u) (h : Q u s)
  (hn : x ≠ "__name__" := by decide) (hd : (x == ("__debug__" : Str)) = false := by decide) : wpAny (model X.prog X.w) X.A (eval (.Name x pos) X.env) Q E s := by
 obtain ⟨mb, h1, h2⟩ := I.mod.blt
 exact Calls.Name_function_global I.ok.kind hg (Calls.loadGlobal_builtin (by rw [I.ok.glob]; exact I.mod.glob.keeps I.bk) hm (by rw [I.ok.blt]; exact h1.keeps I.bk) ((h2 x hn).trans hv) h) hd
theorem zro {x : Str} {v : V} {u : Value} {pos : Pos} (hg : Gl X x) (hm : X.mg x = some u) (r : RelV v u) (hd : (x == ("__debug__" : Str)) = false := by decide) : PE X (.Name x pos) (tC v) :=
 fun _ _ _ H _ I h => zod I hg hm ⟨v, H, I, r, h⟩ hd
theorem zi8 {x : Str} {v : V} {u : Value} {pos : Pos} (hg : Gl X x) (hm : X.mg x = none) (hv : bootBuiltins x = some u) (r : RelV v u) (hn : x ≠ "__name__" := by decide) (hd : (x == ("__debug__" : Str)) = false := by decide) : PE X (.Name x pos) (tC v) :=
 fun _ _ _ H _ I h => zgo I hg hm hv ⟨v, H, I, r, h⟩ hn hd
variable {a b : Expr} {ta tb : TE} {pos : Pos}
noncomputable def tB (t : TE) : TT := fun σ H Q => t σ H fun x H1 => ∃ c, x = .bl c /\ Q c H1
theorem zkm {e : Expr} {t : TE} (h : PE X e t) (he : ∀ whole, isTrue e X.env whole = (do let v <- whole; standAt e.pos; holding [v] (truthy v)) := by intro _; rfl) : PT X e (tB t) := by
 intro pins s σ H Q I hw
 refine isTrue_plain (thn (h pins s σ H _ I hw) fun v s1 hz9 => ?_) (he _)
 obtain ⟨x, H1, I1, r1, q1⟩ := hz9
 obtain ⟨d, rfl, q⟩ := q1
 cases r1
 exact wpAny_truthy_bool ⟨H1, I1, q⟩
variable {tA tB' : TT} {rest : List Expr}
noncomputable def tAnd (t u : TT) : TT := fun σ H Q => t σ H fun c H1 => if c = true then u σ H1 Q else Q false H1
noncomputable def tOr (t u : TT) : TT := fun σ H Q => t σ H fun c H1 => if c = true then Q true H1 else u σ H1 Q
noncomputable def tNot (t : TT) : TT := fun σ H Q => t σ H fun c H1 => Q (!c) H1
theorem zjd (ha : PT X a tA) : PW X (.BoolOp .And [a] pos) tA := by
 intro wh pins s σ H Q I h
 refine isTrue_and (thn (ha pins s σ H Q I h) fun c s1 e => ?_)
 cases c with
 | true => exact isTrue_and_nil e
 | false => exact e
theorem zog (ha : PT X a tA) : PW X (.BoolOp .Or [a] pos) tA := by
 intro wh pins s σ H Q I h
 refine isTrue_or (thn (ha pins s σ H Q I h) fun c s1 e => ?_)
 cases c with
 | false => exact isTrue_or_nil e
 | true => exact e
theorem zny (ha : PT X a tA) (hb : PW X (.BoolOp .And (b :: rest) pos) tB') : PW X (.BoolOp .And (a :: b :: rest) pos) (tAnd tA tB') := by
 intro wh pins s σ H Q I h
 refine isTrue_and (thn (ha pins s σ H _ I h) fun c s1 hz9 => ?_)
 obtain ⟨H1, I1, q1⟩ := hz9
 cases c with
 | true => exact hb wh pins s1 σ H1 Q I1 q1
 | false => exact ⟨H1, I1, q1⟩
theorem zr3 (ha : PT X a tA) (hb : PW X (.BoolOp .Or (b :: rest) pos) tB') : PW X (.BoolOp .Or (a :: b :: rest) pos) (tOr tA tB') := by
 intro wh pins s σ H Q I h
 refine isTrue_or (thn (ha pins s σ H _ I h) fun c s1 hz9 => ?_)
 obtain ⟨H1, I1, q1⟩ := hz9
 cases c with
 | true => exact ⟨H1, I1, q1⟩
 | false => exact hb wh pins s1 σ H1 Q I1 q1
theorem zle (ha : PT X a tA) : PT X (.UnaryOp .Not a pos) (tNot tA) := by
 intro pins s σ H Q I h
 exact isTrue_not (ha pins s σ H (fun c H1 => Q (!c) H1) I h)
end
end L2
namespace L2
open PySem PySem.Spec PyProof.Rows
noncomputable def SqL (K : PySem.W.Frag) (H : Hp) (a : Addr) (xs : List V) : Prop :=
 Rd H a (.lst xs) \/
  ∃ (o : Obj) (its : Array Value) (n : Nat), K.lookup a = some o /\ o.cls = .type "list" /\ o.dict = none /\ o.data = .seq its n /\ its.size <= sizeLine /\ Vals xs its.toList
noncomputable def SqT (K : PySem.W.Frag) (H : Hp) (a : Addr) (xs : List V) : Prop :=
 Rd H a (.tup xs) \/
  ∃ (o : Obj) (its : Array Value) (n : Nat), K.lookup a = some o /\ o.cls = .type "tuple" /\ o.data = .seq its n /\ its.size <= sizeLine /\ Vals xs its.toList
noncomputable def absV : Value -> Option V
 | .none => some .non
 | .bool b => some (.bl b)
 | .int i _ => some (.int i)
 | .str x _ => some (.str x)
 | .bytes b _ => some (.byt b)
 | .float b _ => some (.flt b)
 | .ref a => some (.ref a)
 | .type n => some (.ty n)
 | _ => none
theorem RelV.abs {x : V} {u : Value} (r : RelV x u) : absV u = some x := by
 cases x with
 | non => cases r; rfl
 | bl _ => cases r; rfl
 | int _ => obtain ⟨t, rfl⟩ := r; rfl
 | str _ => obtain ⟨t, rfl⟩ := r; rfl
 | byt _ => obtain ⟨t, rfl⟩ := r; rfl
 | flt _ => obtain ⟨t, rfl⟩ := r; rfl
 | ref _ => cases r; rfl
 | ty _ => cases r; rfl
theorem RelV.inj {x y : V} {u : Value} (r : RelV x u) (q : RelV y u) : x = y := Option.some.inj (r.abs.symm.trans q.abs)
theorem Vals.inj : ∀ {xs ys : List V} {us : List Value}, Vals xs us -> Vals ys us -> xs = ys
 | _, _, _, .nil, .nil => rfl
 | _, _, _, .cons r t, .cons r' t' => by rw [r.inj r', Vals.inj t t']
section
variable {X : Cx} {pins : List (Addr × Obj)} {σ : St} {H : Hp} {s : Shared} {a : Addr} {xs ys : List V}
theorem SqL.of {K : PySem.W.Frag} (h : H a = some (.lst xs)) : SqL K H a xs := .inl (.inl h)
theorem SqT.of {K : PySem.W.Frag} (h : H a = some (.tup xs)) : SqT K H a xs := .inl (.inl h)
theorem Inv.list (I : Inv X pins σ H s) (h : SqL X.K H a xs) : ∃ its : List Value, Vals xs its /\ PlainL s.heap a its.toArray /\ xs.length <= sizeLine := by
 rcases h with h | ⟨o, its, n, hk, hc, hd, hs, hz, r⟩
 ·obtain ⟨z, its, n, r, e⟩ := h.ok I.hok
  exact ⟨its, r, ⟨_, n, e, rfl, rfl, rfl⟩, z⟩
 ·refine ⟨its.toList, r, ⟨o, n, I.kIn a o hk, hc, hd, by simpa using hs⟩, ?_⟩
  have e := r.length
  simp only [Array.length_toList] at e
  omega
theorem Inv.tuple (I : Inv X pins σ H s) (h : SqT X.K H a xs) : ∃ its : List Value, Vals xs its /\ IsTup s.heap a its.toArray /\ xs.length <= sizeLine := by
 rcases h with h | ⟨o, its, n, hk, hc, hs, hz, r⟩
 ·obtain ⟨z, its, r, p⟩ := h.ok I.hok
  exact ⟨its, r, p, z⟩
 ·refine ⟨its.toList, r, ⟨o, I.kIn a o hk, hc, n, by simpa using hs⟩, ?_⟩
  have e := r.length
  simp only [Array.length_toList] at e
  omega
theorem Inv.list_inj (I : Inv X pins σ H s) (h : SqL X.K H a xs) (h' : SqL X.K H a ys) : xs = ys := by
 obtain ⟨its, r, ⟨o, n, e, _, _, d⟩, _⟩ := I.list h
 obtain ⟨its', r', ⟨o', n', e', _, _, d'⟩, _⟩ := I.list h'
 rw [e] at e'; cases e'
 rw [d] at d'
 injection d' with d1 _
 have : its = its' := by simpa using congrArg Array.toList d1
 subst this
 exact r.inj r'
theorem Inv.tuple_inj (I : Inv X pins σ H s) (h : SqT X.K H a xs) (h' : SqT X.K H a ys) : xs = ys := by
 obtain ⟨its, r, ⟨o, e, _, n, d⟩, _⟩ := I.tuple h
 obtain ⟨its', r', ⟨o', e', _, n', d'⟩, _⟩ := I.tuple h'
 rw [e] at e'; cases e'
 rw [d] at d'
 injection d' with d1 _
 have : its = its' := by simpa using congrArg Array.toList d1
 subst this
 exact r.inj r'
end
noncomputable abbrev Cx.wish (X : Cx) (E : Value -> Shared -> Prop) : Cx := { X with xe := E }
noncomputable abbrev Cx.nox (X : Cx) : Cx := X.wish fun _ _ => False
theorem Cx.Ok.wish {X : Cx} (ok : X.Ok) (E : Value -> Shared -> Prop) : (X.wish E).Ok :=
 ⟨ok.mod, ok.kind, ok.glob, ok.blt, ok.above, ok.inj, ok.has, ok.cab, ok.hd, ok.frames, ok.stk, ok.exf, ok.bs, ok.bsz, ok.noex, ok.exfs, ok.funs, ok.frf⟩
theorem Cx.Ok.unwish {X : Cx} {E : Value -> Shared -> Prop} (ok : (X.wish E).Ok) : X.Ok :=
 ⟨ok.mod, ok.kind, ok.glob, ok.blt, ok.above, ok.inj, ok.has, ok.cab, ok.hd, ok.frames, ok.stk, ok.exf, ok.bs, ok.bsz, ok.noex, ok.exfs, ok.funs, ok.frf⟩
section
variable {X : Cx} {pins : List (Addr × Obj)} {σ : St} {H : Hp} {s : Shared} {E : Value -> Shared -> Prop}
theorem Inv.wish (I : Inv X pins σ H s) (E : Value -> Shared -> Prop) : Inv (X.wish E) pins σ H s := ⟨I.ok.wish E, I.os, I.bare, I.base, I.loc, I.cell, I.free, I.freeC, I.pin, I.hok, I.len⟩
theorem Inv.unwish (I : Inv (X.wish E) pins σ H s) : Inv X pins σ H s := ⟨I.ok.unwish, I.os, I.bare, I.base, I.loc, I.cell, I.free, I.freeC, I.pin, I.hok, I.len⟩
theorem SP.unwish {D : Ends} {f : Flow} {s' : Shared} (h : SP (X.wish E) pins D f s') : SP X pins D f s' := by
 cases f with
 | next => obtain ⟨σ', H', I, q⟩ := h; exact ⟨σ', H', I.unwish, q⟩
 | brk => obtain ⟨σ', H', I, q⟩ := h; exact ⟨σ', H', I.unwish, q⟩
 | cont => obtain ⟨σ', H', I, q⟩ := h; exact ⟨σ', H', I.unwish, q⟩
 | ret u => obtain ⟨v, σ', H', I, r, q⟩ := h; exact ⟨v, σ', H', I.unwish, r, q⟩
theorem PSs.nox {st : List Stmt} {t : TS} (h : PSs X.nox st t) : PSs X st t := fun pins s σ H D I hw =>
 wpAny_mono (h pins s σ H D (I.wish _) hw) (fun _ _ q => q.unwish) fun _ _ z => False.elim z
end
section
variable {X : Cx} {st : Stmt} {rest : List Stmt} {t u : TS} {e : Expr} {te : TE} {pos : Pos}
noncomputable def zum : TS := fun D σ H => D.nx σ H
noncomputable def tSeq (t u : TS) : TS := fun D σ H => t { D with nx := u D } σ H
theorem zdm : PSs X [] zum := fun _ _ σ H _ I h => wpAny_execs_nil ⟨σ, H, I, h⟩
theorem zae (h1 : PS X st t) (h2 : PSs X rest u) : PSs X (st :: rest) (tSeq t u) := by
 intro pins s σ H D I h
 refine wpAny_execs_cons (thn (h1 pins s σ H { D with nx := u D } I h) fun f s1 q => ?_)
 cases f with
 | next =>
  obtain ⟨σ', H', I', q⟩ := q
  exact h2 pins s1 σ' H' D I' q
 | ret v => exact q
 | brk => exact q
 | cont => exact q
theorem zao (h1 : PS X st t) : PSs X [st] t := by
 intro pins s σ H D I h
 refine wpAny_execs_cons (thn (h1 pins s σ H D I h) fun f s1 q => ?_)
 cases f with
 | next => exact wpAny_execs_nil q
 | ret v => exact q
 | brk => exact q
 | cont => exact q
theorem Inv.quiet {pins : List (Addr × Obj)} {σ : St} {H : Hp} {s : Shared} (I : Inv X pins σ H s) : interactive X.env = false := by simp [interactive, I.ok.kind]
noncomputable def zl6 (te : TE) : TS := fun D σ H => te σ H fun _ H1 => D.nx σ H1
theorem zdc (he : PE X e te) (hs : swapsWith e none pos.line X.env = pure false := by rfl) : PS X (.Expr e pos) (zl6 te) := by
 intro pins s σ H D I h
 exact wpAny_Expr_any (thn (he pins s σ H _ I h) fun v s1 ⟨x, H1, I1, r1, q1⟩ => ⟨σ, H1, I1, q1⟩) I.quiet hs
noncomputable def tRet (te : TE) : TS := fun D σ H => te σ H D.rt
theorem zb3 (he : PE X e te) : PS X (.Return (some e) pos) (tRet te) := by
 intro pins s σ H D I h
 exact wpAny_Return_some (thn (he pins s σ H _ I h) fun v s1 ⟨x, H1, I1, r1, q1⟩ => ⟨x, σ, H1, I1, r1, q1⟩)
noncomputable def tIfS (c : TT) (t u : TS) : TS := fun D σ H => c σ H fun b H1 => if b = true then t D σ H1 else u D σ H1
theorem zh2 {c : Expr} {a b : List Stmt} {tc : TT} (hc : PT X c tc) (ha : PSs X a t) (hb : PSs X b u) : PS X (.If c a b pos) (tIfS tc t u) := by
 intro pins s σ H D I h
 refine wpAny_If (thn (hc pins s σ H _ I h) fun d s1 hz9 => ?_)
 obtain ⟨H1, I1, q1⟩ := hz9
 cases d with
 | true => exact ha pins s1 σ H1 D I1 q1
 | false => exact hb pins s1 σ H1 D I1 q1
end
noncomputable abbrev TG := V -> St -> Hp -> (St -> Hp -> Prop) -> Prop
noncomputable abbrev TGs := List V -> St -> Hp -> (St -> Hp -> Prop) -> Prop
noncomputable def PG (X : Cx) (target : Expr) (t : TG) : Prop :=
 ∀ (pins : List (Addr × Obj)) (s : Shared) (σ : St) (H : Hp) (v : V) (u : Value) (Q : St -> Hp -> Prop), Inv X pins σ H s -> RelV v u -> t v σ H Q ->
  wpAny (model X.prog X.w) X.A (assign target X.env u) (fun _ s' => ∃ σ' H', Inv X pins σ' H' s' /\ Q σ' H') X.xe s
noncomputable def PGs (X : Cx) (ts : List Expr) (t : TGs) : Prop :=
 ∀ (pins : List (Addr × Obj)) (s : Shared) (σ : St) (H : Hp) (vs : List V) (us : List Value) (Q : St -> Hp -> Prop), Inv X pins σ H s -> Vals vs us -> t vs σ H Q ->
  wpAny (model X.prog X.w) X.A (assignInOrder ((assignEach ts X.env).map (·.2)) us) (fun _ s' => ∃ σ' H', Inv X pins σ' H' s' /\ Q σ' H') X.xe s
section
variable {X : Cx} {pos : Pos}
noncomputable def zd7 (i : Nat) : TG := fun v σ H Q => Q (σ.set i (some v)) H
theorem zax {i : Nat} {x : Str} (hN : X.N.Nodup) (hi : X.N[i]? = some x) (hx : Loc X.env.scope x) (hf : X.fn x = true \/ X.env.scope.names.lookup x = some .local := by first | exact .inl rfl | exact .inr rfl | assumption) : PG X (.Name x pos) (zd7 i) := by
 intro pins s σ H v u Q I r h
 exact wpAny_assign_Name (zlj I hN hi hx r (fun s' I' => ⟨_, H, I', h⟩) hf)
noncomputable def gNil : TGs := fun vs σ H Q => vs = [] /\ Q σ H
noncomputable def zs7 (t : TG) (u : TGs) : TGs := fun vs σ H Q => ∃ v r, vs = v :: r /\ t v σ H fun σ' H' => u r σ' H' Q
theorem zsa : PGs X [] gNil := by
 intro pins s σ H vs us Q I r h
 obtain ⟨e, h⟩ := h
 subst e
 cases r
 exact assignInOrder_nil ⟨σ, H, I, h⟩
theorem zk9 {e : Expr} {es : List Expr} {t : TG} {u : TGs} (h1 : PG X e t) (h2 : PGs X es u)
  (hs : (assignEach (e :: es) X.env).map (·.2) = assign e X.env :: (assignEach es X.env).map (·.2) := by rfl) : PGs X (e :: es) (zs7 t u) := by
 intro pins s σ H vs us Q I r h
 obtain ⟨v, vr, e1, h⟩ := h
 subst e1
 cases r with
 | cons r rr =>
  rw [hs]
  refine assignInOrder_cons (thn (h1 pins s σ H _ _ _ I r h) fun _ s1 hz9 => ?_)
  obtain ⟨σ1, H1, I1, q1⟩ := hz9
  exact h2 pins s1 σ1 H1 _ _ Q I1 rr q1
noncomputable def gTup (K : PySem.W.Frag) (n : Nat) (t : TGs) : TG := fun v σ H Q => ∃ a xs, v = .ref a /\ SqT K H a xs /\ xs.length = n /\ t xs σ H Q
theorem zt5 {es : List Expr} {k : Nat} {t : TGs} {n : Nat} (hc : X.calm = true) (h : PGs X es t)
  (hn : (assignEach es X.env).length = n := by rfl) (hst : (assignEach es X.env).findIdx? (·.1) = none := by rfl) : PG X (.Tuple es k pos) (gTup X.K n t) := by
 intro pins s σ H v u Q I r hw
 obtain ⟨a, xs, e1, hq, hl, hw⟩ := hw
 subst e1
 cases r
 obtain ⟨its, rv, ht, hz⟩ := I.tuple hq
 refine assign_Tuple_tuple (I.ok.hd hc) ht (by simp [hn, <- hl, rv.length]) hst fun h' hx => ?_
 have I1 : Inv X pins σ H { s with heap := h' } := I.kept (t':=s.toks) fun b o e => hx b o (Nat.ne_of_lt (Heap.lt_size e)) e
 exact h pins _ σ H xs _ Q I1 (by simpa using rv) hw
noncomputable def tAsg (te : TE) (g : TG) : TS := fun D σ H => te σ H fun x H1 => g x σ H1 D.nx
theorem zaw {i : Nat} {x : Str} {e : Expr} {te : TE} {pos' : Pos} (hN : X.N.Nodup) (hi : X.N[i]? = some x) (hx : Loc X.env.scope x) (he : PE X e te) (hs : swapsWith e (some (.Name x pos')) pos.line X.env = pure false := by rfl) (hf : X.fn x = true \/ X.env.scope.names.lookup x = some .local := by first | exact .inl rfl | exact .inr rfl | assumption) :
  PS X (.Assign [.Name x pos'] e pos) (tAsg te (zd7 i)) := by
 intro pins s σ H D I h
 refine wpAny_Assign_Name (thn (he pins s σ H _ I h) fun v s1 hz9 => ?_) hs
 obtain ⟨y, H1, I1, r1, q1⟩ := hz9
 exact zlj I1 hN hi hx r1 (fun s2 I2 => ⟨_, H1, I2, q1⟩) hf
end
structure It where
 go : Nat -> Hp -> Prop
 yld : Nat -> Hp -> V -> Hp -> Prop
 stop : Nat -> Hp -> Prop
noncomputable def FpOk (X : Cx) (pins : List (Addr × Obj)) (H : Hp) (b : Addr) : Prop :=
 H b = none /\ b ≠ X.env.locals /\ b ∉ X.fs /\ (b ∈ X.ex \/ X.s₀.heap.objs.size <= b) /\ (∀ x c, X.env.cells.lookup x = some c -> c ≠ b) /\ ∀ p ∈ X.pn ++ pins, p.1 ≠ b
theorem Inv.fpOk {X : Cx} {pins : List (Addr × Obj)} {σ : St} {H H' : Hp} {s : Shared} {b : Addr} (I : Inv X pins σ H s) (hb : s.heap.objs.size <= b) (hn : H' b = none) : FpOk X pins H' b := by
 refine ⟨hn, Nat.ne_of_gt (Nat.lt_of_lt_of_le I.lt hb), I.nofs hb, .inr (Nat.le_trans I.sz hb), fun x c e z => ?_, fun p hp z => ?_⟩
 ·obtain ⟨v, q⟩ := I.cell x c e
  exact absurd (Nat.lt_of_lt_of_le q.lt (by rw [z]; exact hb)) (Nat.lt_irrefl _)
 ·exact absurd (Nat.lt_of_lt_of_le (Heap.lt_size (I.pin p hp).1) (by rw [z]; exact hb)) (Nat.lt_irrefl _)
structure Turn (P : Program) (w : World) (K : PySem.W.Frag) (tg : Expr) (J : It) (fp : List Addr) (it : Addr) (tn : Nat -> Heap -> Prop) : Prop where
 mem : it ∈ fp
 obj : ∀ i h, tn i h -> ∀ b ∈ fp, ∃ o, h.get? b = some o /\ ∀ v, o.data ≠ .cell v
 keep : ∀ i h h', tn i h -> (∀ b ∈ fp, ∀ o, h.get? b = some o -> h'.get? b = some o) -> tn i h'
 item : ∀ (X : Cx), X.prog = P -> X.w = w -> X.K = K -> X.calm = true -> ∀ (i : Nat) (pins : List (Addr × Obj)) (s : Shared) (σ : St) (H : Hp) (E : Value -> Shared -> Prop), Inv X pins σ H s -> (∀ b ∈ fp, FpOk X pins H b) -> tn i s.heap -> J.go i H ->
  wpAny (model P w) X.A (pyNext (.ref it)) (fun r s1 => ∃ u, r = some u /\
   wpAny (model P w) X.A (letOwnedTupleGo tg (.ref it) u) (fun _ s2 => ∃ x H', Inv X pins σ H' s2 /\ RelV x u /\ J.yld i H x H' /\ tn (i + 1) s2.heap /\ ∀ b ∈ fp, H' b = none) E s1) E s
 done : ∀ (X : Cx), X.prog = P -> X.w = w -> X.K = K -> X.calm = true -> ∀ (i : Nat) (pins : List (Addr × Obj)) (s : Shared) (σ : St) (H : Hp) (E : Value -> Shared -> Prop), Inv X pins σ H s -> (∀ b ∈ fp, FpOk X pins H b) -> tn i s.heap -> J.stop i H ->
  wpAny (model P w) X.A (pyNext (.ref it)) (fun r s1 => r = none /\ Inv X pins σ H s1) E s
 self : ∀ (A : Around) (i : Nat) (s : Shared) (Q : Value -> Shared -> Prop) (E : Value -> Shared -> Prop), tn i s.heap -> Q (.ref it) s -> wpAny (model P w) A (pyIter (.ref it)) Q E s
noncomputable abbrev TI := St -> Hp -> (It -> Hp -> Prop) -> Prop
noncomputable def PIE (X : Cx) (pins : List (Addr × Obj)) (σ : St) (tg : Expr) (R : It -> Hp -> Prop) (itv : Value) (s2 : Shared) : Prop :=
 ∃ (it : Addr) (fp : List Addr) (tn : Nat -> Heap -> Prop) (J : It) (H' : Hp), itv = .ref it /\ Inv X pins σ H' s2 /\ Turn X.prog X.w X.K tg J fp it tn /\ tn 0 s2.heap /\ (∀ b ∈ fp, FpOk X pins H' b) /\ R J H'
noncomputable def PI (X : Cx) (tg iter : Expr) (wi : TI) : Prop :=
 ∀ (pins : List (Addr × Obj)) (s : Shared) (σ : St) (H : Hp) (R : It -> Hp -> Prop), Inv X pins σ H s -> wi σ H R ->
  wpAny (model X.prog X.w) X.A (eval iter X.env) (fun v s1 => wpAny (model X.prog X.w) X.A (pyIter v) (PIE X pins σ tg R) X.xe s1) X.xe s
theorem zrp {M : Model} {A : Around} {E : Value -> Shared -> Prop} {s : Shared} {tg : Expr} {it : Addr} {u : Value} {o : Obj} {n : String} {vs : Array Value} {Q : Unit -> Shared -> Prop} (ho : s.heap.get? it = some o) (hc : o.cls = .type n) (hd : o.data = .fields vs)
    (hn : ["enumerate", "zip", "dict_itemiterator", "dict_reverseitemiterator", "odict_iterator", "itertools.zip_longest", "itertools.pairwise"].contains n = false) (hQ : Q () s) : wpAny M A (letOwnedTupleGo tg (.ref it) u) Q E s := by
  unfold letOwnedTupleGo
  cases tg <;> first
    | exact wpAny_pure hQ
    | (cases u <;> first
        | exact wpAny_pure hQ
        | (refine wpAny_bind (wpAny_load ho ?_)
           rw [hc, hd]
           show wpAny M A (if (["enumerate", "zip", "dict_itemiterator", "dict_reverseitemiterator", "odict_iterator", "itertools.zip_longest", "itertools.pairwise"].contains n && vs[0]? == some (rawInt _)) = true then _ else _) Q E s
           rw [if_neg (by intro h; rw [hn, Bool.false_and] at h; cases h)]
           exact wpAny_pure hQ))
noncomputable def Itl (K : PySem.W.Frag) (a : Addr) : It :=
 ⟨fun i H => ∃ xs x, SqL K H a xs /\ xs[i]? = some x, fun i H x H' => H' = H /\ ∀ xs, SqL K H a xs -> xs[i]? = some x, fun i H => ∃ xs, SqL K H a xs /\ xs.length <= i⟩
noncomputable def Itt (K : PySem.W.Frag) (a : Addr) : It :=
 ⟨fun i H => ∃ xs x, SqT K H a xs /\ xs[i]? = some x, fun i H x H' => H' = H /\ ∀ xs, SqT K H a xs -> xs[i]? = some x, fun i H => ∃ xs, SqT K H a xs /\ xs.length <= i⟩
noncomputable def Itr (lo : Int) (n : Nat) : It := ⟨fun i _ => i < n, fun i H x H' => H' = H /\ x = .int (lo + i), fun i _ => n <= i⟩
theorem znl {P : Program} {w : World} {K : PySem.W.Frag} {tg : Expr} (a it : Addr) : Turn P w K tg (Itl K a) [it] it (fun i h => h.IsListIter it a i) where
 mem := by simp
 obj := fun i h st b hb => by
  have e : b = it := by simpa using hb
  subst e
  obtain ⟨o, e, c, d⟩ := st
  exact ⟨o, e, fun v z => by rw [d] at z; cases z⟩
 keep := fun i h h' st k => st.at fun o e => k it (by simp) o e
 item := by
  intro X hP hw hK hc i pins s σ H E I hf st hg
  subst hP hw hK
  obtain ⟨xs, x, hq, hx⟩ := hg
  obtain ⟨its, rv, p, hz⟩ := I.list hq
  obtain ⟨u, hu, ru⟩ := rv.get hx
  obtain ⟨f0, f1, f2, f3, f4, f5⟩ := hf it (by simp)
  refine wpAny_pyNext_list_item st p.isList (x:=u) (by simpa using hu) fun h' st' sb => ?_
  have I1 : Inv X pins σ H { s with heap := h' } := I.turned (t':=s.toks) (fun b o hb e => (sb.2 b hb).trans e) f0 f1 f3 f4 f5
  obtain ⟨o, e, c, d⟩ := id st'
  exact ⟨u, rfl, zrp (s:={ s with heap := h' }) e c d (by decide) ⟨x, H, I1, ru, ⟨rfl, fun ys hy => by rw [I.list_inj hy hq]; exact hx⟩, st', fun b hb => (hf b hb).1⟩⟩
 done := by
  intro X hP hw hK hc i pins s σ H E I hf st hg
  subst hP hw hK
  obtain ⟨xs, hq, hx⟩ := hg
  obtain ⟨its, rv, p, hz⟩ := I.list hq
  obtain ⟨f0, f1, f2, f3, f4, f5⟩ := hf it (by simp)
  have hl := rv.length
  exact wpAny_pyNext_list_end (I.ok.hd hc) st p.isList (by simp; omega) fun h' eb => ⟨rfl, I.turned (t':=s.toks) (fun b o hb e => eb b o hb e) f0 f1 f3 f4 f5⟩
 self := fun _ _ _ _ _ st h => wpAny_pyIter_listiter st h
theorem zl9 {P : Program} {w : World} {K : PySem.W.Frag} {tg : Expr} (a it : Addr) : Turn P w K tg (Itt K a) [it] it (fun i h => h.IsTupleIter it a i) where
 mem := by simp
 obj := fun i h st b hb => by
  have e : b = it := by simpa using hb
  subst e
  obtain ⟨o, e, c, d⟩ := st
  exact ⟨o, e, fun v z => by rw [d] at z; cases z⟩
 keep := fun i h h' st k => st.at fun o e => k it (by simp) o e
 item := by
  intro X hP hw hK hc i pins s σ H E I hf st hg
  subst hP hw hK
  obtain ⟨xs, x, hq, hx⟩ := hg
  obtain ⟨its, rv, p, hz⟩ := I.tuple hq
  obtain ⟨u, hu, ru⟩ := rv.get hx
  obtain ⟨f0, f1, f2, f3, f4, f5⟩ := hf it (by simp)
  refine wpAny_pyNext_tuple_item st (show s.heap.IsTuple a its.toArray from p) (x:=u) (by simpa using hu) fun h' st' sb => ?_
  have I1 : Inv X pins σ H { s with heap := h' } := I.turned (t':=s.toks) (fun b o hb e => (sb.2 b hb).trans e) f0 f1 f3 f4 f5
  obtain ⟨o, e, c, d⟩ := id st'
  exact ⟨u, rfl, zrp (s:={ s with heap := h' }) e c d (by decide) ⟨x, H, I1, ru, ⟨rfl, fun ys hy => by rw [I.tuple_inj hy hq]; exact hx⟩, st', fun b hb => (hf b hb).1⟩⟩
 done := by
  intro X hP hw hK hc i pins s σ H E I hf st hg
  subst hP hw hK
  obtain ⟨xs, hq, hx⟩ := hg
  obtain ⟨its, rv, p, hz⟩ := I.tuple hq
  obtain ⟨f0, f1, f2, f3, f4, f5⟩ := hf it (by simp)
  have hl := rv.length
  exact wpAny_pyNext_tuple_end (I.ok.hd hc) st (show s.heap.IsTuple a its.toArray from p) (by simp; omega) fun h' eb => ⟨rfl, I.turned (t':=s.toks) (fun b o hb e => eb b o hb e) f0 f1 f3 f4 f5⟩
 self := fun _ _ _ _ _ st h => wpAny_pyIter_tupleiter st h
theorem zl2 {P : Program} {w : World} {K : PySem.W.Frag} {tg : Expr} (it : Addr) (lo : Int) (n : Nat) : Turn P w K tg (Itr lo n) [it] it (fun i h => IsRangeIter h it (lo + (i : Nat) * 1) ((n : Int) - (i : Nat)) 1) where
 mem := by simp
 obj := fun i h st b hb => by
  have e : b = it := by simpa using hb
  subst e
  exact ⟨_, st, fun v z => by
   have z' : Data.fields _ = Data.cell v := z
   cases z'⟩
 keep := fun i h h' st k => k it (by simp) _ st
 item := by
  intro X hP hw hK hc i pins s σ H E I hf st hg
  subst hP hw hK
  obtain ⟨f0, f1, f2, f3, f4, f5⟩ := hf it (by simp)
  have W := Walks.range (prog:=X.prog) (w:=X.w) (I.ok.hd hc) it lo 1 n
  refine W.item i s _ _ hg st fun v h' tk hv st' kk => ?_
  obtain ⟨t, rfl⟩ := hv
  have I1 : Inv X pins σ H { s with heap := h', toks := tk } := I.turned (fun b o hb e => kk b o (by simpa using hb) e) f0 f1 f3 f4 f5
  refine ⟨_, rfl, zrp (s:={ s with heap := h', toks := tk }) (n:="range_iterator") st' rfl rfl (by decide) ⟨.int (lo + i), H, I1, ⟨t, ?_⟩, ⟨rfl, rfl⟩, st', fun b hb => (hf b hb).1⟩⟩
  rw [Int.mul_one]
 done := by
  intro X hP hw hK hc i pins s σ H E I hf st hg
  subst hP hw hK
  obtain ⟨f0, f1, f2, f3, f4, f5⟩ := hf it (by simp)
  exact wpAny_pyNext_range_end (I.ok.hd hc) st (by have : n <= i := hg; omega) fun h' eb => ⟨rfl, I.turned (t':=s.toks) (fun b o hb e => eb b o hb e) f0 f1 f3 f4 f5⟩
 self := fun _ _ _ _ _ st h => wpAny_pyIter_rangeiter st h
end L2
namespace L2
open PySem PySem.Spec PyProof.Rows
section
variable {X : Cx} {tg : Expr}
noncomputable def zh8 (K : PySem.W.Frag) (tl : TE) : TI := fun σ H R => tl σ H fun x H1 => ∃ a, x = .ref a /\ (∃ xs, SqL K H1 a xs) /\ R (Itl K a) H1
noncomputable def iTup (K : PySem.W.Frag) (tl : TE) : TI := fun σ H R => tl σ H fun x H1 => ∃ a, x = .ref a /\ (∃ xs, SqT K H1 a xs) /\ R (Itt K a) H1
theorem zbf {l : Expr} {tl : TE} (hl : PE X l tl) : PI X tg l (zh8 X.K tl) := by
 intro pins s σ H R I h
 refine thn (hl pins s σ H _ I h) fun v s1 hz9 => ?_
 obtain ⟨x, H1, I1, r1, q1⟩ := hz9
 obtain ⟨a, e, ⟨xs, hq⟩, q⟩ := q1
 subst e
 cases r1
 obtain ⟨its, rv, p, hz⟩ := I1.list hq
 refine wpAny_pyIter_list p.isList ?_
 refine ⟨s1.heap.objs.size, [s1.heap.objs.size], _, _, H1, rfl, I1.kept (t':=s1.toks) fun b o e => Heap.get?_push_of_some _ e, znl a _, ⟨_, Heap.get?_push_size _ rfl, rfl, rfl⟩, fun b hb => ?_, q⟩
 have e : b = s1.heap.objs.size := by simpa using hb
 subst e
 exact I1.fpOk (Nat.le_refl _) (I1.hok.fresh (Nat.le_refl _))
theorem zt1 {l : Expr} {tl : TE} (hl : PE X l tl) : PI X tg l (iTup X.K tl) := by
 intro pins s σ H R I h
 refine thn (hl pins s σ H _ I h) fun v s1 hz9 => ?_
 obtain ⟨x, H1, I1, r1, q1⟩ := hz9
 obtain ⟨a, e, ⟨xs, hq⟩, q⟩ := q1
 subst e
 cases r1
 obtain ⟨its, rv, p, hz⟩ := I1.tuple hq
 refine wpAny_pyIter_tuple (show s1.heap.IsTuple a its.toArray from p) ?_
 refine ⟨s1.heap.objs.size, [s1.heap.objs.size], _, _, H1, rfl, I1.kept (t':=s1.toks) fun b o e => Heap.get?_push_of_some _ e, zl9 a _, ⟨_, Heap.get?_push_size _ rfl, rfl, rfl⟩, fun b hb => ?_, q⟩
 have e : b = s1.heap.objs.size := by simpa using hb
 subst e
 exact I1.fpOk (Nat.le_refl _) (I1.hok.fresh (Nat.le_refl _))
theorem zpv {pins : List (Addr × Obj)} {σ : St} {H : Hp} {s : Shared} {R : It -> Hp -> Prop} {E : Value -> Shared -> Prop} {lo hi : Int} {t u v : Tok} {tk : Nat} (I : Inv X pins σ H s) (h1 : -(2 ^ 62) <= lo) (h2 : lo < 2 ^ 62) (h3 : -(2 ^ 62) <= hi) (h4 : hi < 2 ^ 62)
  (q : R (Itr lo (hi - lo).toNat) H) : wpAny (model X.prog X.w) X.A (pyIter (.ref s.heap.objs.size)) (PIE X pins σ tg R) E { s with heap := s.heap.push { cls := .type "range", data := .fields #[.int lo t, .int hi u, .int 1 v] }, toks := tk } := by
 refine wpAny_pyIter_range (IsRange.new ..) (small_one h1 h2 h3 h4) ?_
 have I1 : Inv X pins σ H { s with heap := s.heap.push { cls := .type "range", data := .fields #[.int lo t, .int hi u, .int 1 v] }, toks := tk } := I.kept fun b o e => Heap.get?_push_of_some _ e
 refine ⟨(s.heap.push { cls := .type "range", data := .fields #[.int lo t, .int hi u, .int 1 v] }).objs.size, [(s.heap.push { cls := .type "range", data := .fields #[.int lo t, .int hi u, .int 1 v] }).objs.size], _, _, H, rfl,
  I1.kept (t':=tk) fun b o e => Heap.get?_push_of_some _ e, zl2 _ lo (hi - lo).toNat, ?_, fun b hb => ?_, q⟩
 ·have e1 : lo + ((0 : Nat) : Int) * 1 = lo := by simp
  have e2 : (((hi - lo).toNat : Nat) : Int) - ((0 : Nat) : Int) = Builtin.Range.rangeSize lo hi 1 := by rw [rangeSize_one]; split <;> omega
  show IsRangeIter _ _ (lo + ((0 : Nat) : Int) * 1) ((((hi - lo).toNat : Nat) : Int) - ((0 : Nat) : Int)) 1
  rw [e1, e2]
  exact Heap.get?_push_size _ rfl
 ·have e : b = (s.heap.push { cls := .type "range", data := .fields #[.int lo t, .int hi u, .int 1 v] }).objs.size := by simpa using hb
  subst e
  exact I1.fpOk (Nat.le_refl _) (I1.hok.fresh (Nat.le_refl _))
noncomputable def ztk (ta : TA) : TI := fun σ H R => ta σ H fun vs H1 => ∃ j : Int, vs = [.int j] /\ -(2 ^ 62) <= j /\ j < 2 ^ 62 /\ R (Itr 0 j.toNat) H1
theorem zed {a : Expr} {ta : TA} {p pos : Pos} (hg : Gl X "range") (hm : X.mg "range" = none) (ha : PA X [a] ta) (hs : starEach [a] X.env = [(false, eval a X.env)] := by rfl) : PI X tg (.Call (.Name "range" p) [a] [] pos) (ztk ta) := by
 intro pins s σ H R I h
 refine Call_ (zgo I hg hm boot_range (PyProof.Rows.callWith_type1 (thn (ha pos pins s σ H _ I h) fun us s1 hz9 => ?_) hs rfl))
 obtain ⟨vs, H1, I1, r1, q1⟩ := hz9
 obtain ⟨j, e, q1, q2, q⟩ := q1
 subst e
 cases r1 with
 | cons r rr =>
  cases rr
  obtain ⟨t, rfl⟩ := r
  exact call_range_1 (zpv I1 (by omega) (by omega) q1 q2 (by simpa using q))
noncomputable def tFor (wi : TI) (g : TG) (tb : TS) : TS := fun D σ H => wi σ H fun J H1 => ∃ W : Nat -> Nat -> St -> Hp -> Prop, (∃ m, W 0 m σ H1) /\ ∀ i m σ H, W i m σ H ->
 (J.stop i H /\ D.nx σ H) \/ (J.go i H /\ ∃ N : St -> Hp -> Prop, (∀ σ' H', N σ' H' -> ∃ m', m' < m /\ W (i + 1) m' σ' H') /\ ∀ x H', J.yld i H x H' -> g x σ H' fun σ2 H2 => tb { D with nx := N, ct := N, bk := D.nx } σ2 H2)
noncomputable def zi2 (fp : List Addr) (h : Heap) : List (Addr × Obj) := fp.filterMap fun b => (h.get? b).map fun o => (b, o)
theorem zdv {fp : List Addr} {h : Heap} {b : Addr} {o : Obj} (hb : b ∈ fp) (e : h.get? b = some o) : (b, o) ∈ zi2 fp h := List.mem_filterMap.mpr ⟨b, hb, by rw [e]; rfl⟩
theorem zmt {fp : List Addr} {h : Heap} {p : Addr × Obj} (hp : p ∈ zi2 fp h) : p.1 ∈ fp /\ h.get? p.1 = some p.2 := by
 obtain ⟨b, hb, e⟩ := List.mem_filterMap.mp hp
 cases q : h.get? b with
 | none => rw [q] at e; cases e
 | some o =>
  rw [q] at e
  have e' : (b, o) = p := Option.some.inj e
  subst e'
  exact ⟨hb, q⟩
theorem Inv.pinned {pins : List (Addr × Obj)} {σ : St} {H : Hp} {s : Shared} {fp : List Addr} (I : Inv X pins σ H s) (hf : ∀ b ∈ fp, FpOk X pins H b) (ho : ∀ b ∈ fp, ∃ o, s.heap.get? b = some o /\ ∀ v, o.data ≠ .cell v) : Inv X (pins ++ zi2 fp s.heap) σ H s :=
 I.pins_of fun p hp => (List.mem_append.mp hp).elim (fun z => I.pin p (List.mem_append_right _ z)) fun z => by
  obtain ⟨hb, e⟩ := zmt z
  obtain ⟨f0, f1, f2, _⟩ := hf p.1 hb
  obtain ⟨o, e', d⟩ := ho p.1 hb
  rw [e] at e'; cases e'
  exact ⟨e, f0, f1, f2, d⟩
theorem Inv.unpinned {pins pl : List (Addr × Obj)} {σ : St} {H : Hp} {s : Shared} (I : Inv X (pins ++ pl) σ H s) : Inv X pins σ H s := I.pins_of fun p hp => I.pin p (List.mem_append_right _ (List.mem_append_left _ hp))
theorem zck {iter : Expr} {body : List Stmt} {wi : TI} {g : TG} {tb : TS} {pos : Pos} (hp : PassesOwn (model X.prog X.w) X.A X.env X.xe) (hc : X.calm = true) (hi : PI X tg iter wi) (hg : PG X tg g) (hb : PSs X body tb)
  (hs : ∀ x, foldedSetIterable iter X.env x = pure x := by intro _; rfl) : PS X (.For tg iter body [] pos) (tFor wi g tb) := by
 intro pins s σ H D I h
 refine wpAny_For (thn (hi pins s σ H _ I h) fun v s1 h1 => thn h1 fun itv s2 h2 => ?_) hs
 obtain ⟨it, fp, tn, J, H2, e, I2, T, st2, f2, W, ⟨m0, w0⟩, turn⟩ := h2
 subst e
 -- what stays true of the iterator's objects through the loop
 have stat : ∀ {H' : Hp}, (∀ b ∈ fp, H' b = none) -> ∀ b ∈ fp, FpOk X pins H' b := fun hn b hb => ⟨hn b hb, (f2 b hb).2⟩
 refine codeAny_forLoop_any (fun n s' => ∃ i σ' H', Inv X pins σ' H' s' /\ tn i s'.heap /\ (∀ b ∈ fp, H' b = none) /\ W i n σ' H') ?_ m0 ⟨0, σ, H2, I2, st2, fun b hb => (f2 b hb).1, w0⟩
 rintro n s3 ⟨i, σ3, H3, I3, st3, fr3, w3⟩
 rcases turn i n σ3 H3 w3 with ⟨stop, qn⟩ | ⟨go, N, hN, step⟩
 ·refine wpAny_passesOwn hp (thn (T.done X rfl rfl rfl hc i pins s3 σ3 H3 X.xe I3 (stat fr3) st3 stop) fun r s4 hz9 => ?_)
  obtain ⟨hr, I4⟩ := hz9
  subst hr
  exact wpAny_execs_nil ⟨σ3, H3, I4, qn⟩
 ·refine wpAny_passesOwn hp (thn (T.item X rfl rfl rfl hc i pins s3 σ3 H3 X.xe I3 (stat fr3) st3 go) fun r s4 hz9 => ?_)
  obtain ⟨u, hr, h4⟩ := hz9
  subst hr
  refine wpAny_passesOwn hp (thn h4 fun _ s5 hz9 => ?_)
  obtain ⟨x, H5, I5, r5, y5, st5, fr5⟩ := hz9
  have I5' := I5.pinned (stat fr5) (T.obj _ _ st5)
  refine wpAny_passesOwn hp (thn (hg _ s5 σ3 H5 x u _ I5' r5 (step x H5 y5)) fun _ s6 hz9 => ?_)
  obtain ⟨σ6, H6, I6, q6⟩ := hz9
  refine wpAny_passesOwn hp (thn (hb _ s6 σ6 H6 _ I6 q6) fun f s7 q7 => ?_)
  have again : ∀ {σ7 : St} {H7 : Hp}, Inv X (pins ++ zi2 fp s5.heap) σ7 H7 s7 -> N σ7 H7 -> ∃ m, m < n /\ ∃ i σ' H', Inv X pins σ' H' s7 /\ tn i s7.heap /\ (∀ b ∈ fp, H' b = none) /\ W i m σ' H' := fun {σ7 H7} I7 n7 => by
   obtain ⟨m', hm, w7⟩ := hN σ7 H7 n7
   refine ⟨m', hm, i + 1, σ7, H7, I7.unpinned, T.keep _ _ _ st5 fun b hb o e => (I7.pin (b, o) (List.mem_append_right _ (List.mem_append_right _ (zdv hb e)))).1, fun b hb => ?_, w7⟩
   obtain ⟨o, e, d⟩ := T.obj _ _ st5 b hb
   exact (I7.pin (b, o) (List.mem_append_right _ (List.mem_append_right _ (zdv hb e)))).2.1
  cases f with
  | next => obtain ⟨σ7, H7, I7, n7⟩ := q7; exact again I7 n7
  | cont => obtain ⟨σ7, H7, I7, n7⟩ := q7; exact again I7 n7
  | brk => obtain ⟨σ7, H7, I7, q7⟩ := q7; exact ⟨σ7, H7, I7.unpinned, q7⟩
  | ret v => obtain ⟨x7, σ7, H7, I7, r7, q7⟩ := q7; exact ⟨x7, σ7, H7, I7.unpinned, r7, q7⟩
end
end L2
namespace L2
open PySem PySem.Spec PyProof.Rows
noncomputable abbrev R2 := V -> V -> Hp -> VK -> Prop
noncomputable def OpR (X : Cx) (f : Value -> Value -> Sem Value) (r : R2) : Prop :=
 ∀ (pins : List (Addr × Obj)) (s : Shared) (σ : St) (H : Hp) (x y : V) (v u : Value) (Q : VK), Inv X pins σ H s -> RelV x v -> RelV y u -> r x y H Q ->
  wpAny (model X.prog X.w) X.A (f v u) (EP X pins σ Q) X.xe s
noncomputable def zca (X : Cx) (f : Value) (r : List V -> Hp -> VK -> Prop) : Prop :=
 ∀ (pins : List (Addr × Obj)) (s : Shared) (σ : St) (H : Hp) (xs : List V) (us : List Value) (Q : VK), Inv X pins σ H s -> Vals xs us -> r xs H Q ->
  wpAny (model X.prog X.w) X.A (call f us) (EP X pins σ Q) X.xe s
noncomputable def tOp (r : R2) (ta tb : TE) : TE := fun σ H Q => ta σ H fun x H1 => tb σ H1 fun y H2 => r x y H2 Q
noncomputable def rI (C : Int -> Int -> Prop) (g : Int -> Int -> V) : R2 := fun x y H Q => ∃ i j, x = .int i /\ y = .int j /\ C i j /\ Q (g i j) H
noncomputable def rI0 (g : Int -> Int -> V) : R2 := fun x y H Q => ∃ i j, x = .int i /\ y = .int j /\ Q (g i j) H
section
variable {X : Cx} {a b c : Expr} {ta tb tc : TE} {pos : Pos}
theorem binT (ha : PE X a ta) (hb : PE X b tb) {pins : List (Addr × Obj)} {s : Shared} {σ : St} {H : Hp} {R : V -> V -> Hp -> Prop} (I : Inv X pins σ H s)
  (h : ta σ H fun x H1 => tb σ H1 fun y H2 => R x y H2) {Q : Value -> Shared -> Prop} {f : Value -> Value -> Sem Value}
  (hf : ∀ v u s2 x y H2, Inv X pins σ H2 s2 -> RelV x v -> RelV y u -> R x y H2 -> wpAny (model X.prog X.w) X.A (f v u) Q X.xe s2) :
  wpAny (model X.prog X.w) X.A (eval a X.env) (fun v s₁ => wpAny (model X.prog X.w) X.A (eval b X.env) (fun u s₂ => wpAny (model X.prog X.w) X.A (f v u) Q X.xe s₂) X.xe s₁) X.xe s := by
 refine thn (ha pins s σ H _ I h) fun v s1 hz9 => ?_
 obtain ⟨x, H1, I1, r1, q1⟩ := hz9
 refine thn (hb pins s1 σ H1 _ I1 q1) fun u s2 hz9 => ?_
 obtain ⟨y, H2, I2, r2, q2⟩ := hz9
 exact hf v u s2 x y H2 I2 r1 r2 q2
theorem za6 {op : Operator} {r : R2} (ho : OpR X (binaryOp op) r) (ha : PE X a ta) (hb : PE X b tb) : PE X (.BinOp a op b pos) (tOp r ta tb) := by
 intro pins s σ H Q I h
 exact wpAny_BinOp (binT ha hb I h fun v u s2 x y H2 I2 rx ry q => ho pins s2 σ H2 x y v u Q I2 rx ry q)
theorem opI {f : Value -> Value -> Sem Value} {C : Int -> Int -> Prop} {g : Int -> Int -> Int}
  (rule : ∀ (i j : Int) (t u : Tok) (s : Shared) (Q : Value -> Shared -> Prop) (E : Value -> Shared -> Prop), C i j -> Q (.int (g i j) s.toks) { s with toks := s.toks + 1 } -> wpAny (model X.prog X.w) X.A (f (.int i t) (.int j u)) Q E s) :
  OpR X f (rI C fun i j => .int (g i j)) := by
 intro pins s σ H x y v u Q I rx ry h
 obtain ⟨i, j, rfl, rfl, hc, q⟩ := h
 obtain ⟨t, rfl⟩ := rx
 obtain ⟨t', rfl⟩ := ry
 exact rule i j t t' s _ _ hc ⟨.int (g i j), H, I.tok _, ⟨_, rfl⟩, q⟩
theorem opI0 {f : Value -> Value -> Sem Value} {g : Int -> Int -> Int}
  (rule : ∀ (i j : Int) (t u : Tok) (s : Shared) (Q : Value -> Shared -> Prop) (E : Value -> Shared -> Prop), Q (.int (g i j) s.toks) { s with toks := s.toks + 1 } -> wpAny (model X.prog X.w) X.A (f (.int i t) (.int j u)) Q E s) :
  OpR X f (rI0 fun i j => .int (g i j)) := by
 intro pins s σ H x y v u Q I rx ry h
 obtain ⟨i, j, rfl, rfl, q⟩ := h
 obtain ⟨t, rfl⟩ := rx
 obtain ⟨t', rfl⟩ := ry
 exact rule i j t t' s _ _ ⟨.int (g i j), H, I.tok _, ⟨_, rfl⟩, q⟩
theorem opB0 {f : Value -> Value -> Sem Value} {g : Int -> Int -> Bool}
  (rule : ∀ (i j : Int) (t u : Tok) (s : Shared) (Q : Value -> Shared -> Prop) (E : Value -> Shared -> Prop), Q (.bool (g i j)) s -> wpAny (model X.prog X.w) X.A (f (.int i t) (.int j u)) Q E s) :
  OpR X f (rI0 fun i j => .bl (g i j)) := by
 intro pins s σ H x y v u Q I rx ry h
 obtain ⟨i, j, rfl, rfl, q⟩ := h
 obtain ⟨t, rfl⟩ := rx
 obtain ⟨t', rfl⟩ := ry
 exact rule i j t t' s _ _ ⟨.bl (g i j), H, I, rfl, q⟩
noncomputable def CDiv (i j : Int) : Prop := 0 < j /\ j < 1073741824
noncomputable def CMul (i j : Int) : Prop := (-(2 ^ 64) < i /\ i < 2 ^ 64) \/ (-(2 ^ 64) < j /\ j < 2 ^ 64)
theorem CMul.ok {i j : Int} (h : CMul i j) : IntMulOk i j := by
 rcases h with ⟨h1, h2⟩ | ⟨h1, h2⟩
 ·exact .of_left (intBits_le_64 h1 h2)
 ·exact .of_right (intBits_le_64 h1 h2)
theorem zc5 : OpR X (binaryOp .Add) (rI0 fun i j => .int (i + j)) := opI0 fun _ _ _ _ _ _ _ q => add_int q
theorem zoz : OpR X (binaryOp .Mult) (rI CMul fun i j => .int (i * j)) := opI fun _ _ _ _ _ _ _ hc q => mul_int q hc.ok
theorem zd5 : OpR X (binaryOp .FloorDiv) (rI CDiv fun i j => .int (i / j)) := opI fun i j _ _ _ _ _ hc q => by
 have h1 : (0 : Int) < j := hc.1
 have h2 : j < 1073741824 := hc.2
 exact floordiv_int (by omega) (by rw [Int.fdiv_eq_ediv_of_nonneg i (by omega)]; exact q) (.inl (PyProof.noPylong_small (by omega)))
theorem zbv : OpR X (binaryOp .Mod) (rI (fun _ j => 0 < j) fun i j => .int (i % j)) := opI fun i j _ _ _ _ _ hc q => by
 have h1 : (0 : Int) < j := hc
 exact mod_int' (by omega) (by rw [Int.fmod_eq_emod_of_nonneg i (by omega)]; exact q)
end
noncomputable def scal : V -> V -> Bool
 | .non, .non => true | .non, .int _ => true | .int _, .non => true | .non, .bl _ => true | .bl _, .non => true | .non, .str _ => true | .str _, .non => true
 | .int _, .int _ => true | .bl _, .bl _ => true | .str _, .str _ => true | .byt _, .byt _ => true
 | .int _, .str _ => true | .str _, .int _ => true | .bl _, .str _ => true | .str _, .bl _ => true
 | _, _ => false
noncomputable def rEq : R2 := fun x y H Q => scal x y = true /\ Q (.bl (decide (x = y))) H
noncomputable def rNe : R2 := fun x y H Q => scal x y = true /\ Q (.bl (!decide (x = y))) H
theorem zmq {i j : Int} : decide (V.int i = V.int j) = (i == j) := by
 rw [Bool.eq_iff_iff]
 simp
theorem zq4 {i j : Bool} : decide (V.bl i = V.bl j) = (i == j) := by
 rw [Bool.eq_iff_iff]
 simp
theorem zo5 {i j : Str} : decide (V.str i = V.str j) = (i == j) := by
 rw [Bool.eq_iff_iff]
 simp
theorem zmn {i j : Array UInt8} : decide (V.byt i = V.byt j) = (i.toList == j.toList) := by
 rw [Bool.eq_iff_iff]
 cases i
 cases j
 simp
section
variable {X : Cx} {a b c : Expr} {ta tb tc : TE} {pos : Pos}
theorem zay {pins : List (Addr × Obj)} {σ : St} {H : Hp} {s : Shared} {Q : VK} {k k' : Bool} (I : Inv X pins σ H s) (q : Q (.bl k) H) (e : k = k') : EP X pins σ Q (.bool k') s := by
 subst e
 exact ⟨.bl k, H, I, rfl, q⟩
theorem zih : OpR X (compareOp .Eq) rEq := by
 intro pins s σ H x y v u Q I rx ry h
 obtain ⟨hs, q⟩ := h
 cases x with
 | non =>
  cases rx
  cases y with
  | non => cases ry; exact PySem.EqNone.eq_none_none (zay I q (by simp))
  | bl j => cases ry; exact PySem.EqNone.eq_none_bool (zay I q (by simp))
  | int j => obtain ⟨t', rfl⟩ := ry; exact PySem.EqNone.eq_none_int (zay I q (by simp))
  | str j => obtain ⟨t', rfl⟩ := ry; exact PySem.EqNone.eq_none_str (zay I q (by simp))
  | _ => exact absurd (show false = true from hs) Bool.false_ne_true
 | bl i =>
  cases rx
  cases y with
  | non => cases ry; exact PySem.EqNone.eq_bool_none (zay I q (by simp))
  | bl j => cases ry; exact eq_bool (zay I q zq4)
  | str j => obtain ⟨t', rfl⟩ := ry; exact PySem.EqMixed.eq_bool_str (zay I q (by simp))
  | _ => exact absurd (show false = true from hs) Bool.false_ne_true
 | int i =>
  obtain ⟨t, rfl⟩ := rx
  cases y with
  | non => cases ry; exact PySem.EqNone.eq_int_none (zay I q (by simp))
  | int j => obtain ⟨t', rfl⟩ := ry; exact eq_int (zay I q zmq)
  | str j => obtain ⟨t', rfl⟩ := ry; exact PySem.EqMixed.eq_int_str (zay I q (by simp))
  | _ => exact absurd (show false = true from hs) Bool.false_ne_true
 | str i =>
  obtain ⟨t, rfl⟩ := rx
  cases y with
  | non => cases ry; exact PySem.EqNone.eq_str_none (zay I q (by simp))
  | bl j => cases ry; exact PySem.EqMixed.eq_str_bool (zay I q (by simp))
  | int j => obtain ⟨t', rfl⟩ := ry; exact PySem.EqMixed.eq_str_int (zay I q (by simp))
  | str j => obtain ⟨t', rfl⟩ := ry; exact eq_str (zay I q zo5)
  | _ => exact absurd (show false = true from hs) Bool.false_ne_true
 | byt i =>
  obtain ⟨t, rfl⟩ := rx
  cases y with
  | byt j => obtain ⟨t', rfl⟩ := ry; exact PySem.W.eq_bytes (zay I q zmn)
  | _ => exact absurd (show false = true from hs) Bool.false_ne_true
 | _ => cases y <;> exact absurd (show false = true from hs) Bool.false_ne_true
theorem zu7 : OpR X (compareOp .NotEq) rNe := by
 intro pins s σ H x y v u Q I rx ry h
 obtain ⟨hs, q⟩ := h
 cases x with
 | non =>
  cases rx
  cases y with
  | non => cases ry; exact PySem.EqNone.ne_none_none (zay I q (by simp))
  | bl j => cases ry; exact PySem.EqNone.ne_none_bool (zay I q (by simp))
  | int j => obtain ⟨t', rfl⟩ := ry; exact PySem.EqNone.ne_none_int (zay I q (by simp))
  | str j => obtain ⟨t', rfl⟩ := ry; exact PySem.EqNone.ne_none_str (zay I q (by simp))
  | _ => exact absurd (show false = true from hs) Bool.false_ne_true
 | bl i =>
  cases rx
  cases y with
  | non => cases ry; exact PySem.EqNone.ne_bool_none (zay I q (by simp))
  | bl j => cases ry; exact ne_bool (zay I q (congrArg not zq4))
  | str j => obtain ⟨t', rfl⟩ := ry; exact PySem.EqMixed.ne_bool_str (zay I q (by simp))
  | _ => exact absurd (show false = true from hs) Bool.false_ne_true
 | int i =>
  obtain ⟨t, rfl⟩ := rx
  cases y with
  | non => cases ry; exact PySem.EqNone.ne_int_none (zay I q (by simp))
  | int j => obtain ⟨t', rfl⟩ := ry; exact ne_int (zay I q (congrArg not zmq))
  | str j => obtain ⟨t', rfl⟩ := ry; exact PySem.EqMixed.ne_int_str (zay I q (by simp))
  | _ => exact absurd (show false = true from hs) Bool.false_ne_true
 | str i =>
  obtain ⟨t, rfl⟩ := rx
  cases y with
  | non => cases ry; exact PySem.EqNone.ne_str_none (zay I q (by simp))
  | bl j => cases ry; exact PySem.EqMixed.ne_str_bool (zay I q (by simp))
  | int j => obtain ⟨t', rfl⟩ := ry; exact PySem.EqMixed.ne_str_int (zay I q (by simp))
  | str j => obtain ⟨t', rfl⟩ := ry; exact ne_str (zay I q (congrArg not zo5))
  | _ => exact absurd (show false = true from hs) Bool.false_ne_true
 | byt i =>
  obtain ⟨t, rfl⟩ := rx
  cases y with
  | byt j => obtain ⟨t', rfl⟩ := ry; exact PySem.W.ne_bytes (zay I q (congrArg not zmn))
  | _ => exact absurd (show false = true from hs) Bool.false_ne_true
 | _ => cases y <;> exact absurd (show false = true from hs) Bool.false_ne_true
theorem zuz : OpR X (compareOp .Lt) (rI0 fun i j => .bl (decide (i < j))) := opB0 fun _ _ _ _ _ _ _ q => lt_int q
theorem zc8 (b : Expr) {op : CmpOp} (h : op ≠ .In := by decide) (h2 : op ≠ .NotIn := by decide) : behindInMarks op b = false := by
 have e1 : (op == CmpOp.In) = false := by cases op <;> first | rfl | exact absurd rfl h
 have e2 : (op == CmpOp.NotIn) = false := by cases op <;> first | rfl | exact absurd rfl h2
 cases b <;> simp [behindInMarks, e1, e2]
noncomputable def zur (t : TE) : TT := fun σ H Q => t σ H fun x H' => ∃ k, x = .bl k /\ Q k H'
theorem zbq {op : CmpOp} {r : R2} (ho : OpR X (compareOp op) r) (ha : PE X a ta) (hb : PE X b tb) (hm : behindInMarks op b = false) : PT X (.Compare a [op] [b] pos) (zur (tOp r ta tb)) := by
 intro pins s σ H Q I h
 refine wpAny_isTrue_Compare1 (thn (ha pins s σ H _ I h) fun v s1 ⟨x, H1, I1, r1, q1⟩ => thn (hb pins s1 σ H1 _ I1 q1) fun u s2 ⟨y, H2, I2, r2, q2⟩ =>
  thn (ho pins s2 σ H2 x y v u _ I2 r1 r2 q2) fun c s3 ⟨z, H3, I3, r3, k, e, q3⟩ => ?_) hm
 subst e
 cases r3
 exact wpAny_truthy_bool ⟨H3, I3, q3⟩
theorem zkv : (sizeLine : Nat) < 2 ^ 63 := by rw [sizeLine_eq]; decide
theorem zgq : OpR X (binaryOp .Add) (fun x y H Q => ∃ i j, x = .str i /\ y = .str j /\ i.length + j.length <= sizeLine /\ Q (.str (i ++ j)) H) := by
 intro pins s σ H x y v u Q I rx ry h
 obtain ⟨i, j, rfl, rfl, hz, q⟩ := h
 obtain ⟨t, rfl⟩ := rx
 obtain ⟨t', rfl⟩ := ry
 exact add_str (fun t' tk => ⟨.str (i ++ j), H, I.tok _, ⟨_, rfl⟩, q⟩) hz
theorem zj8 {x : V} {us : List Value} (r : Vals [x] us) : ∃ u, us = [u] /\ RelV x u := by
 cases r with
 | cons r1 r2 => cases r2; exact ⟨_, rfl, r1⟩
theorem zje {x y : V} {us : List Value} (r : Vals [x, y] us) : ∃ u w', us = [u, w'] /\ RelV x u /\ RelV y w' := by
 cases r with
 | cons r1 r2 =>
  cases r2 with
  | cons r3 r4 => cases r4; exact ⟨_, _, rfl, r1, r3⟩
theorem zn4 (hc : X.calm = true) : zca X (.builtin "max") (fun xs H Q => ∃ i j, xs = [.int i, .int j] /\ Q (.int (if j > i then j else i)) H) := by
 intro pins s σ H xs us Q I r h
 obtain ⟨i, j, rfl, q⟩ := h
 obtain ⟨u, w', rfl, ⟨t, rfl⟩, ⟨t', rfl⟩⟩ := zje r
 refine max_two_ints (I.ok.hd hc) fun h' tk k => ⟨_, H, I.kept k, ?_, q⟩
 by_cases hj : j > i
 ·rw [if_pos hj, if_pos hj]; exact ⟨_, rfl⟩
 ·rw [if_neg hj, if_neg hj]; exact ⟨_, rfl⟩
end
end L2
namespace L2
open PySem PySem.Spec PyProof.Rows
structure ObjM (h : Heap) (x dx C : Addr) (mA : Str -> Option Value) : Prop where
 obj : h.get? x = some (PySem.W.instObj C dx)
 ns : h.Ns1 dx mA
 ne : dx ≠ x
section
variable {prog : Program} {w : World} {A : Around} {E : Value -> Shared -> Prop} {s : Shared} {K : PySem.W.Frag} {x dx C f : Addr} {mA : Str -> Option Value} {name : Str} {v : Value}
end
structure Cls (K : PySem.W.Frag) (C : Addr) : Prop where
 pg : PySem.W.plainGet K C Str.empty = true
 hd : PySem.W.hasDictIn K C = true
 po : PySem.W.plainOver K C = true
 sa : PySem.W.findIn K (.ref C) "__setattr__" = some (some (.builtin "object.__setattr__"))
structure Con (K : PySem.W.Frag) (C : Addr) (f : Str) (v : V) (u : Value) : Prop where
 at_ : PySem.W.findIn K (.ref C) f = some (some u)
 rel : RelV v u
 get : PySem.W.specialIn K u "__get__" = some none
 cp : PySem.W.copiedNames.contains f = false
structure Meth (K : PySem.W.Frag) (C : Addr) (m : Str) (f : Addr) : Prop where
 at_ : PySem.W.findIn K (.ref C) m = some (some (.ref f))
 fn : PySem.W.isFn K (.ref f) = true
 kp : PySem.W.keepIn K (.ref f) = true
section
variable {X : Cx} {pins : List (Addr × Obj)} {σ : St} {H : Hp} {s : Shared} {a C dx : Addr} {fs : List (Str × V)} {f : Str} {v : V} {A : Around} {E : Value -> Shared -> Prop}
end
section
variable {X : Cx} {pins : List (Addr × Obj)} {σ : St} {H : Hp} {s : Shared} {A : Around} {E : Value -> Shared -> Prop} {Q : Value -> Shared -> Prop} {c : Value} {b : Bool}
inductive TyOf (K : PySem.W.Frag) (H : Hp) : V -> Value -> Prop where
 | non : TyOf K H .non (.type "NoneType")
 | bl (x : Bool) : TyOf K H (.bl x) (.type "bool")
 | int (i : Int) : TyOf K H (.int i) (.type "int")
 | str (x : Str) : TyOf K H (.str x) (.type "str")
 | flt (x : UInt64) : TyOf K H (.flt x) (.type "float")
 | lst {a : Addr} {xs : List V} (e : H a = some (.lst xs)) : TyOf K H (.ref a) (.type "list")
 | frz {a : Addr} {o : Obj} {xs : List V} (e : H a = some (.frz o (.lst xs))) : TyOf K H (.ref a) (.type "list")
 | tup {a : Addr} {xs : List V} (e : H a = some (.tup xs)) : TyOf K H (.ref a) (.type "tuple")
 | dK {a : Addr} {kvs : List (Key × V)} (e : H a = some (.dK kvs)) : TyOf K H (.ref a) (.type "dict")
 | dT {a : Addr} {kvs : List (List Key × V)} (e : H a = some (.dT kvs)) : TyOf K H (.ref a) (.type "dict")
 | ins {a C dx : Addr} {fs : List (Str × V)} (e : H a = some (.ins C dx fs)) (cl : Cls K C) (ha : PySem.W.findIn K (.ref C) "__class__" = some (some (.builtin "object.__class__")))
   (hn : PySem.W.specialIn K (.builtin "object.__class__") "__get__" = some (some (.builtin "getset_descriptor.__get__"))) (htk : PySem.W.takesIn K (.builtin "object.__class__") = some true)
   (hm : PySem.W.mroIn K C (.type "object") = some true) : TyOf K H (.ref a) (.ref C)
end
end L2
namespace L2
open PySem PySem.Spec PyProof.Rows
structure Room (k : Nat) (A : Around) : Prop where
 hd : A.handled = none
 dp : A.depth + 3 * k + 5 < recursionLimit
 un : A.units + 16 * k + 200 < cLine
 gd : A.guards = some []
theorem Room.mono {j k : Nat} {A : Around} (r : Room k A) (h : j <= k) : Room j A := ⟨r.hd, by have := r.dp; omega, by have := r.un; omega, r.gd⟩
theorem Room.deeper {k : Nat} {A : Around} (r : Room (k + 1) A) (env : Env) : Room k (A.deeper env) :=
 ⟨r.hd, by have := r.dp; show A.depth + 1 + 3 * k + 5 < _; omega, by have := r.un; show A.units + 3 + 16 * k + 200 < _; omega, r.gd⟩
theorem Room.depth {k : Nat} {A : Around} (r : Room k A) : A.depth < recursionLimit := by have := r.dp; omega
theorem Room.units {k : Nat} {A : Around} (r : Room k A) : A.units + 64 < cLine := by have := r.un; omega
noncomputable def tNil : TA := fun _ H Q => Q [] H
noncomputable def za9 (ta : TE) (tr : TA) : TA := fun σ H Q => ta σ H fun x H1 => tr σ H1 fun xs H2 => Q (x :: xs) H2
section
variable {X : Cx} {e : Expr} {es : List Expr} {te : TE} {t : TA} {pos : Pos}
theorem zai : PA X [] tNil := fun _ _ _ _ H Q I h => Calls.spliced_nil ⟨[], H, I, .nil, h⟩
theorem zaa (ha : PE X e te) (hr : PA X es t) (hs : starEach (e :: es) X.env = (false, eval e X.env) :: starEach es X.env := by rfl) : PA X (e :: es) (za9 te t) := by
 intro pos pins s σ H Q I h
 rw [hs]
 show wpAny _ _ (spliced ((false, eval e X.env) :: backTo pos (starEach es X.env))) _ _ s
 refine Calls.spliced_cons (thn (ha pins s σ H _ I h) fun u s1 hz9 => ?_)
 obtain ⟨x, H1, I1, r1, q1⟩ := hz9
 refine thn (hr pos pins s1 σ H1 _ I1 q1) fun us s2 hz9 => ?_
 obtain ⟨xs, H2, I2, r2, q2⟩ := hz9
 exact ⟨x :: xs, H2, I2, .cons r1 r2, q2⟩
noncomputable def tTup (t : TA) : TE := fun σ H Q => t σ H fun xs H1 => xs.length <= sizeLine /\ ∀ p, H1 p = none -> Q (.ref p) (upd H1 p (.tup xs))
noncomputable def tLst (t : TA) : TE := fun σ H Q => t σ H fun xs H1 => xs.length <= sizeLine /\ ∀ p, H1 p = none -> Q (.ref p) (upd H1 p (.lst xs))
theorem zkg {x1} (h : PA X es t) : PE X (.Tuple es x1 pos) (tTup t) := by
 intro pins s σ H Q I hq
 refine wpAny_Tuple_spliced (thn (h pos pins s σ H _ I hq) fun us s1 ⟨xs, H1, I1, r, z, q⟩ => ⟨by rw [<- r.length]; exact z, ?_⟩)
 have hf : H1 s1.heap.objs.size = none := I1.hok.fresh (Nat.le_refl _)
 refine ⟨.ref s1.heap.objs.size, upd H1 s1.heap.objs.size (.tup xs), I1.laid (t':=s1.toks) (fun b u e => Heap.get?_push_of_some _ e) (Nat.le_refl _) ?_, rfl, q _ hf⟩
 exact ⟨z, us, r, ⟨_, Heap.get?_push_size _ rfl, rfl, _, rfl⟩⟩
theorem zcp (h : PA X es t) : PE X (.List es pos) (tLst t) := by
 intro pins s σ H Q I hq
 refine wpAny_List_spliced (thn (h pos pins s σ H _ I hq) fun us s1 ⟨xs, H1, I1, r, z, q⟩ => ⟨by rw [<- r.length]; exact z, ?_⟩)
 have hf : H1 s1.heap.objs.size = none := I1.hok.fresh (Nat.le_refl _)
 refine ⟨.ref s1.heap.objs.size, upd H1 s1.heap.objs.size (.lst xs), I1.laid (t':=s1.toks) (fun b u e => Heap.get?_push_of_some _ e) (Nat.le_refl _) ?_, rfl, q _ hf⟩
 exact ⟨z, us, 0, r, Heap.get?_push_size _ rfl⟩
end
noncomputable abbrev Sp := List V -> Hp -> VK -> XK -> Prop
noncomputable abbrev CXT := List Env -> Hp -> Shared -> XK -> Value -> Shared -> Prop
structure Env0 (P : Program) (w : World) (K : PySem.W.Frag) (mg : Str -> Option Value) (base : Heap) (A : Around) (outer : List Env) (s : Shared) (H : Hp) : Prop where
 frames : A.frames = some outer
 mod : Mod K mg base
 bs : ∀ b o, base.get? b = some o -> s.heap.get? b = some o /\ H b = none
 bsz : base.objs.size <= s.heap.objs.size
 funs : s.heap.FunFrames base outer
 frf : ∀ b ∈ frs outer, H b = none
 hok : HOk P w H s.heap
 bare : AllBare s.gens
noncomputable def CE (outer : List Env) (P : Program) (w : World) (H : Hp) (s : Shared) (Q : VK) (u : Value) (s' : Shared) : Prop :=
 ∃ v H', s'.os = s.os /\ AllBare s'.gens /\ Un (frs outer) [] H H' s.heap s'.heap /\ HOk P w H' s'.heap /\ RelV v u /\ Q v H'
noncomputable def CR (CX : CXT) (outer : List Env) (P : Program) (w : World) (H : Hp) (s : Shared) (Q : VK) (E : XK) (r : Result) (s' : Shared) : Prop :=
 match r with
 | .ok (.ret u) => CE outer P w H s Q u s'
 | .ok _ => False
 | .error e => CX outer H s E e s'
structure FnOk (P : Program) (w : World) (K : PySem.W.Frag) (mg : Str -> Option Value) (base : Heap) (CX : CXT) (k : Nat) (f : Addr) (fd : FuncData) (ps : List Str) (sp : Sp) : Prop where
 len : ∀ vs H Q E, sp vs H Q E -> vs.length = ps.length
 run : ∀ (A : Around) (outer : List Env) (s : Shared) (H : Hp) (args : Args) (us : List Value) (vs : List V) (Q : VK) (E : XK), Room k A -> Env0 P w K mg base A outer s H -> BindsTo s fd args (ps.zip us) -> Vals vs us -> sp vs H Q E ->
  codeAny (model P w) A (.call (.ref f) args) (CR CX outer P w H s Q E) s
section
variable {X : Cx} {pins : List (Addr × Obj)} {σ : St} {H : Hp} {s s' : Shared}
theorem Inv.env0 (I : Inv X pins σ H s) : Env0 X.prog X.w X.K X.mg X.base X.A X.stack s H :=
 ⟨I.ok.frames, I.ok.mod, I.bs, Nat.le_trans I.ok.bsz I.sz, I.stack, I.stkFree, I.hok, I.bare⟩
theorem Inv.after {Q : VK} {u : Value} (I : Inv X pins σ H s) (h : CE X.stack X.prog X.w H s Q u s') : EP X pins σ Q u s' := by
 obtain ⟨v, H', os, bare, un, hok, r, q⟩ := h
 obtain ⟨hh, g, d, t, os'⟩ := s'
 obtain rfl : os' = s.os := os
 exact ⟨v, H', I.call (h':=hh) (g':=g) (d':=d) (t':=t) (ch:=[]) un hok bare (fun b z => absurd z (by simp)), r, q⟩
end
noncomputable def zjx (sp : Sp) (dvs : List V) (E : XK) (t : TA) : TE := fun σ H Q => t σ H fun vs H1 => sp (vs ++ dvs) H1 Q E
noncomputable def zd0 (K : PySem.W.Frag) (fd : FuncData) (ps : List Str) (ds : List Value) : Prop :=
 ∀ (s : Shared) (us : List Value), K.In s.heap -> (us ++ ds).length = ps.length -> BindsTo s fd ⟨us, []⟩ (ps.zip (us ++ ds))
theorem zd0.all {K : PySem.W.Frag} {fd : FuncData} {ps : List Str} (h : ∀ us : List Value, us.length = ps.length -> bindArgs fd ⟨us, []⟩ = pure (ps.zip us)) : zd0 K fd ps [] := fun s us _ hl => by
 rw [List.append_nil] at hl ⊢
 exact .of_eq (h us hl)
noncomputable def zo2 (CX : CXT) (X : Cx) (E : XK) : Prop := ∀ (pins : List (Addr × Obj)) (σ : St) (H : Hp) (s : Shared) (e : Value) (s' : Shared), Inv X pins σ H s -> CX X.stack H s E e s' -> X.xe e s'
section
variable {X : Cx} {CX : CXT} {k : Nat} {f C : Addr} {fd : FuncData} {ps : List Str} {sp : Sp} {dvs : List V} {ds : List Value} {E : XK} {x m : Str} {p pos apos : Pos} {e o : Expr} {es : List Expr} {ta : TE} {t : TA}
theorem zub {pins : List (Addr × Obj)} {σ : St} {H : Hp} {s : Shared} {Q : VK} {us : List Value} {vs : List V} (F : FnOk X.prog X.w X.K X.mg X.base CX k f fd ps sp) (hr : Room k X.A) (hb : zd0 X.K fd ps ds) (hd : Vals dvs ds) (hx : zo2 CX X E)
  (I : Inv X pins σ H s) (r : Vals vs us) (h : sp (vs ++ dvs) H Q E) : wpAny (model X.prog X.w) X.A (call (.ref f) us) (EP X pins σ Q) X.xe s := by
 have r2 : Vals (vs ++ dvs) (us ++ ds) := r.append hd
 have hl : (us ++ ds).length = ps.length := by rw [<- r2.length]; exact F.len _ _ _ _ h
 refine wpAny_call (codeAny_mono (F.run X.A X.stack s H ⟨us, []⟩ (us ++ ds) (vs ++ dvs) Q E hr I.env0 (hb s us I.kIn hl) r2 h) fun r s' hq => ?_)
 cases r with
 | error e => exact hx pins σ H s e s' I hq
 | ok fl =>
  cases fl with
  | ret u => exact I.after hq
  | next => exact False.elim hq
  | brk => exact False.elim hq
  | cont => exact False.elim hq
theorem zbx (F : FnOk X.prog X.w X.K X.mg X.base CX k f fd ps sp) (hr : Room k X.A) (hg : Gl X x) (hm : X.mg x = some (.ref f)) (hk : PySem.W.keepIn X.K (.ref f) = true) (hb : zd0 X.K fd ps ds) (hd : Vals dvs ds) (hx : zo2 CX X E)
  (ha : PA X (e :: es) t) (hdb : (x == ("__debug__" : Str)) = false := by decide) (he : starEach (e :: es) X.env = (false, eval e X.env) :: starEach es X.env := by rfl) (hpl : (backTo pos (starEach es X.env)).any (·.1) = false := by rfl) :
  PE X (.Call (.Name x p) (e :: es) [] pos) (zjx sp dvs E t) := by
 intro pins s σ H Q I h
 refine wpAny_Call_Name_kw (zod I hg hm ?_ hdb)
 refine PySem.W.callWith_K (h₀:=X.base) I.ok.mod.kin hk (thn (ha pos pins s σ H _ I h) fun us s1 ⟨vs, H1, I1, r, q⟩ => ⟨I1.kIn, ?_⟩) he hpl
 exact zub F hr hb hd hx I1 r q
structure Mk (K : PySem.W.Frag) (C f : Addr) : Prop where
 makes : PySem.W.makesIn K C = true
 init : PySem.W.findIn K (.ref C) "__init__" = some (some (.ref f))
 fn : PySem.W.isFn K (.ref f) = true
 kp : PySem.W.keepIn K (.ref C) = true
end
section
variable {X : Cx} {CX : CXT} {k : Nat} {f C : Addr} {fd : FuncData} {ps ks : List Str} {sp : Sp} {E : XK} {x m : Str} {p pos apos kpos : Pos} {e o : Expr} {es : List Expr} {kws : List Keyword} {te ta : TE} {t tk : TA} {nm : Option Str}
structure KBinds (K : PySem.W.Frag) (fd : FuncData) (ps ks : List Str) (g : List Value -> List Value -> List Value) (gV : List V -> List V -> List V) : Prop where
 to : ∀ (s : Shared) (us ws : List Value), K.In s.heap -> (g us ws).length = ps.length -> BindsTo s fd ⟨us, ks.zip ws⟩ (ps.zip (g us ws))
 rel : ∀ {vs : List V} {us : List Value} {zs : List V} {ws : List Value}, Vals vs us -> Vals zs ws -> Vals (gV vs zs) (g us ws)
variable {g : List Value -> List Value -> List Value} {gV : List V -> List V -> List V}
end
structure FnScope (N P : List Str) (sc : Scope) : Prop where
 kind : sc.kind = .function
 co : sc.isCoroutine = false
 gen : sc.isGenerator = false
 nd : N.Nodup
 pre : N.take P.length = P
 par : ∀ x ∈ P, sc.names.lookup x = some .local \/ sc.names.lookup x = some .cell
 nofree : ∀ y ∈ sc.names, y.2 ≠ .free
theorem zh7 {kindOf : Str -> Option NameKind} {x : Str} : ∀ {binds : List (Str × Value)} {m : Str -> Option Value}, (∀ v, (x, v) ∉ binds) -> bindL kindOf binds m x = m x
 | [], _, _ => rfl
 | (n, v) :: r, m, h => by
  unfold bindL
  rw [zh7 fun w hw => h w (List.mem_cons_of_mem _ hw)]
  split
  ·have : x ≠ n := by rintro rfl; exact h v List.mem_cons_self
   simp [this]
  ·rfl
theorem zi0 {kindOf : Str -> Option NameKind} {x : Str} : ∀ {binds : List (Str × Value)} {m : Str -> Option Value}, (∀ v, (x, v) ∉ binds) -> bindC kindOf binds m x = m x
 | [], _, _ => rfl
 | (n, v) :: r, m, h => by
  unfold bindC
  rw [zi0 fun w hw => h w (List.mem_cons_of_mem _ hw)]
  split
  ·rfl
  ·have : x ≠ n := by rintro rfl; exact h v List.mem_cons_self
   simp [this]
theorem ziq {kindOf : Str -> Option NameKind} {x : Str} {v : Value} : ∀ {P : List Str} {vs : List Value} {i : Nat} {m : Str -> Option Value}, P.Nodup -> P[i]? = some x -> vs[i]? = some v -> kindOf x = some .local ->
  bindL kindOf (P.zip vs) m x = some v
 | [], _, _, _, _, h, _, _ => by simp at h
 | _ :: _, [], _, _, _, _, h, _ => by simp at h
 | p :: P, w :: vs, 0, m, nd, h1, h2, hk => by
  simp at h1 h2; subst h1; subst h2
  show bindL kindOf ((p, w) :: P.zip vs) m p = _
  unfold bindL
  rw [zh7 fun v hv => (List.nodup_cons.mp nd).1 (List.of_mem_zip hv).1, if_pos hk]
  simp
 | p :: P, w :: vs, i + 1, m, nd, h1, h2, hk => by
  show bindL kindOf ((p, w) :: P.zip vs) m x = _
  unfold bindL
  exact ziq (i:=i) (List.nodup_cons.mp nd).2 (by simpa using h1) (by simpa using h2) hk
theorem zim {kindOf : Str -> Option NameKind} {x : Str} {v : Value} : ∀ {P : List Str} {vs : List Value} {i : Nat} {m : Str -> Option Value}, P.Nodup -> P[i]? = some x -> vs[i]? = some v -> kindOf x ≠ some .local ->
  bindC kindOf (P.zip vs) m x = some v
 | [], _, _, _, _, h, _, _ => by simp at h
 | _ :: _, [], _, _, _, _, h, _ => by simp at h
 | p :: P, w :: vs, 0, m, nd, h1, h2, hk => by
  simp at h1 h2; subst h1; subst h2
  show bindC kindOf ((p, w) :: P.zip vs) m p = _
  unfold bindC
  rw [zi0 fun v hv => (List.nodup_cons.mp nd).1 (List.of_mem_zip hv).1, if_neg hk]
  simp
 | p :: P, w :: vs, i + 1, m, nd, h1, h2, hk => by
  show bindC kindOf ((p, w) :: P.zip vs) m x = _
  unfold bindC
  exact zim (i:=i) (List.nodup_cons.mp nd).2 (by simpa using h1) (by simpa using h2) hk
noncomputable def zdy (N : List Str) (vs : List V) : St := vs.map some ++ List.replicate (N.length - vs.length) none
noncomputable def cxOf (CX : CXT) (P : Program) (w : World) (K : PySem.W.Frag) (mg : Str -> Option Value) (base : Heap) (N : List Str) (qual : Str) (scope : Scope) (f : Addr) (cd : Value) (A : Around) (outer : List Env) (s : Shared) (H : Hp) (E : XK) : Cx where
 prog := P
 w := w
 K := K
 mg := mg
 base := base
 A := A.deeper (envOfC qual scope s.heap.objs.size f cd)
 N := N
 s₀ := s
 H₀ := H
 env := envOfC qual scope s.heap.objs.size f cd
 outer := outer
 stack := envOfC qual scope s.heap.objs.size f cd :: outer
 ex := []
 calm := true
 fn := fun _ => true
 pn := []
 xe := fun e s' => wpAny (model P w) (A.deeper (envOfC qual scope s.heap.objs.size f cd)) (leaving (envOfC qual scope s.heap.objs.size f cd) e) (fun _ s'' => CX outer H s E e s'') (fun e' s'' => CX outer H s E e' s'') s'
theorem zkx {sc : Scope} {n : Nat} {x : Str} (h : sc.names.lookup x = some .cell) : ∃ c, (cellsFrom n sc.names []).lookup x = some c := by
 have q := PySem.W.cellsFrom_some sc.names n [] (.inl h)
 exact Option.isSome_iff_exists.mp q
theorem znh {CX : CXT} {P : Program} {w : World} {K : PySem.W.Frag} {mg : Str -> Option Value} {base : Heap} {N ps : List Str} {qual : Str} {scope : Scope} {f : Addr} {cd : Value} {A : Around} {outer : List Env} {s s1 : Shared} {H : Hp} {E : XK} {us : List Value} {vs : List V}
  (S : FnScope N ps scope) (hd : A.handled = none) (e0 : Env0 P w K mg base A outer s H) (hl : vs.length = ps.length) (r : Vals vs us)
  (x : InCallC s s.heap.objs.size (bindL (envOfC qual scope s.heap.objs.size f cd).kindOf (ps.zip us) fun _ => none) (cellsFrom (s.heap.objs.size + 1) scope.names []) (bindC (envOfC qual scope s.heap.objs.size f cd).kindOf (ps.zip us) fun _ => none) s1) :
  Inv (cxOf CX P w K mg base N qual scope f cd A outer s H E) [] (zdy N vs) H s1 := by
 have hpl : ps.length <= N.length := by have := congrArg List.length S.pre; rw [List.length_take] at this; omega
 obtain ⟨h1, tk, rfl, hk⟩ := x.done
 have noA : ∀ b : Addr, b ∉ (cxOf CX P w K mg base N qual scope f cd A outer s H E).ex := fun b z => absurd (show b ∈ ([] : List Addr) from z) (by simp)
 refine ⟨⟨e0.mod, S.kind, rfl, rfl, Nat.le_refl _, fun y z c h1 h2 => ?_, fun y hy => ?_, fun y c _ h => ?_, fun _ => hd, Around.frames_deeper e0.frames, .inr ⟨rfl, rfl⟩, fun b z => absurd z (noA b), e0.bs, e0.bsz, fun b _ _ => noA b, fun b z => absurd z (noA b), e0.funs, e0.frf⟩,
  rfl, e0.bare, Un.kept hk, ⟨_, x.toInCall.ns, fun i y v h1 h2 h3 => ?_⟩, fun y c h => ⟨_, x.cell y c h⟩, e0.hok.fresh (Nat.le_refl _), fun y c h => ?_, fun p hp => absurd (show p ∈ ([] : List (Addr × Obj)) from hp) (by simp), e0.hok.kept hk, ?_⟩
 ·exact name_of_addr x.apart (PySem.mem_of_lookup h1) (PySem.mem_of_lookup h2)
 ·have hy : scope.names.lookup y = some .cell \/ scope.names.lookup y = some .free := hy
  rcases hy with hy | hy
  ·exact zkx hy
  ·exact absurd rfl (S.nofree _ (PySem.mem_of_lookup hy))
 ·exact Nat.le_of_lt (x.above y c (PySem.mem_of_lookup h))
 ·have hi : i < vs.length := by
   unfold zdy at h2
   by_cases hi : i < vs.length
   ·exact hi
   ·rw [List.getElem?_append_right (by simpa using hi)] at h2
    rw [List.getElem?_replicate] at h2
    split at h2 <;> cases h2
  have ha : vs[i]? = some v := by
   unfold zdy at h2
   rw [List.getElem?_append_left (by simpa using hi), List.getElem?_map] at h2
   cases e : vs[i]? with
   | none => rw [e] at h2; cases h2
   | some a => rw [e] at h2; cases h2; rfl
  obtain ⟨u, hu, rv⟩ := r.get ha
  have hp : ps[i]? = some y := by
   rw [<- S.pre, List.getElem?_take_of_lt (by omega)]; exact h1
  have ndP : ps.Nodup := by rw [<- S.pre]; exact S.nd.sublist (List.take_sublist _ _)
  refine ⟨u, rv, ?_⟩
  rcases S.par y (List.mem_of_getElem? hp) with k | k
  ·exact .inl ⟨k, ziq ndP hp hu k⟩
  ·obtain ⟨c, e⟩ := zkx (n:=s.heap.objs.size + 1) k
   refine .inr ⟨.inl k, c, e, ?_⟩
   have q := x.cell y c e
   rw [zim ndP hp hu (by show scope.names.lookup y ≠ _; rw [k]; decide)] at q
   exact q
 ·exact e0.hok.fresh (Nat.le_of_lt (x.above y c (PySem.mem_of_lookup h)))
 ·unfold zdy
  show _ = N.length
  rw [List.length_append, List.length_map, List.length_replicate]
  omega
theorem zu6 {CX : CXT} {P : Program} {w : World} {K : PySem.W.Frag} {mg : Str -> Option Value} {base : Heap} {k : Nat} {f : Addr} {name qual : Str} {params : Arguments} {body : List Stmt} {scope : Scope} {dV kV doc pm cdv ct oc : Value} {an od : Option Addr}
  {osl : Array (Option Value)} {N ps : List Str} {sp : Sp} (lk : K.lookup f = some ⟨oc, od, .func (PySem.W.fnOf name qual params body scope dV kV doc pm an cdv ct), osl⟩) (hcd : PySem.W.codeIn K cdv qual = true) (S : FnScope N ps scope)
  (len : ∀ vs H Q E, sp vs H Q E -> vs.length = ps.length)
  (hbody : ∀ (A : Around) (outer : List Env) (s : Shared) (H : Hp) (vs : List V) (Q : VK) (E : XK), Room k (A.deeper (envOfC qual scope s.heap.objs.size f cdv)) -> sp vs H Q E ->
   ∃ t, PSs (cxOf CX P w K mg base N qual scope f cdv A outer s H E) body t /\ t { nx := fun _ H' => Q .non H', rt := Q } (zdy N vs) H) :
  FnOk P w K mg base CX (k + 1) f (PySem.W.fnOf name qual params body scope dV kV doc pm an cdv ct) ps sp := by
 refine ⟨len, fun A outer s H args us vs Q E hr e0 hb r hsp => ?_⟩
 have hl := len _ _ _ _ hsp
 have KX : K.In s.heap := e0.mod.kin.keeps fun b o e => (e0.bs b o e).1
 have lim : s.heap.NoLimit := e0.mod.nolimit.keeps fun b o e => (e0.bs b o e).1
 have hkind : ∀ y ∈ ps.zip us, scope.names.lookup y.1 = some .local \/ (scope.names.lookup y.1 = some .cell /\ ((cellsFrom (s.heap.objs.size + 1) scope.names []).lookup y.1).isSome = true) := fun ⟨n, v⟩ hy => by
  rcases S.par n (List.of_mem_zip hy).1 with q | q
  ·exact .inl q
  ·exact .inr ⟨q, PySem.W.cellsFrom_some _ _ _ (.inl q)⟩
 refine codeAny_call_function hr.depth (KX _ _ lk) rfl S.co S.gen rfl (PySem.W.codeRec_of KX hcd) (hb _ _ _ _ ?_)
 refine wpAny_newFunctionEnv_cells S.kind hkind fun env he s1 x => ?_
 subst he
 refine ⟨lim.keeps x.toInCall.keep, codeAny_func ?_⟩
 obtain ⟨t, ht, hq⟩ := hbody A outer s H vs Q E (hr.deeper _) hsp
 have I : Inv (cxOf CX P w K mg base N qual scope f cdv A outer s H E) [] (zdy N vs) H s1 := znh S hr.hd e0 hl r x
 refine wpAny_mono (ht [] s1 (zdy N vs) H _ I hq) (fun fl s' hs => ?_) fun e s' hs => hs
 have fin : ∀ {σ' : St} {H' : Hp} {v : V} {u : Value}, Inv (cxOf CX P w K mg base N qual scope f cdv A outer s H E) [] σ' H' s' -> RelV v u -> Q v H' -> CE outer P w H s Q u s' :=
  fun {σ' H' v u} J rv q => ⟨v, H', J.os, J.bare, J.base, J.hok, rv, q⟩
 cases fl with
 | ret u =>
  obtain ⟨v, σ', H', J, rv, q⟩ := hs
  exact fin J rv q
 | next =>
  obtain ⟨σ', H', J, q⟩ := hs
  exact fin (v:=V.non) (u:=Value.none) J rfl q
 | brk =>
  obtain ⟨_, _, _, q⟩ := hs
  exact False.elim q
 | cont =>
  obtain ⟨_, _, _, q⟩ := hs
  exact False.elim q
end L2
namespace L2
open PySem PySem.Spec PyProof.Rows
section
variable {X : Cx} {x : Str} {p pos : Pos} {e : Expr} {es : List Expr} {t : TA} {id T : String} {r : List V -> Hp -> VK -> Prop}
noncomputable def tCB (r : List V -> Hp -> VK -> Prop) (t : TA) : TE := fun σ H Q => t σ H fun vs H1 => r vs H1 Q
theorem za1 (hc : zca X (.builtin id) r) (hg : Gl X x) (hm : X.mg x = none) (hv : bootBuiltins x = some (.builtin id)) (ha : PA X (e :: es) t) (hn : x ≠ "__name__" := by decide) (hdb : (x == ("__debug__" : Str)) = false := by decide)
  (he : starEach (e :: es) X.env = (false, eval e X.env) :: starEach es X.env := by rfl) (hpl : (backTo pos (starEach es X.env)).any (·.1) = false := by rfl) : PE X (.Call (.Name x p) (e :: es) [] pos) (tCB r t) := by
 intro pins s σ H Q I h
 refine wpAny_Call_Name_kw (zgo I hg hm hv ?_ hn hdb)
 exact PyProof.Rows.callWith_builtin1 (thn (ha pos pins s σ H _ I h) fun us s1 ⟨vs, H1, I1, r1, q1⟩ => hc pins s1 σ H1 vs us Q I1 r1 q1) he hpl
theorem zf0 (hc : zca X (.type T) r) (hg : Gl X x) (hm : X.mg x = none) (hv : bootBuiltins x = some (.type T)) (ha : PA X (e :: es) t) (hn : x ≠ "__name__" := by decide) (hdb : (x == ("__debug__" : Str)) = false := by decide)
  (he : starEach (e :: es) X.env = (false, eval e X.env) :: starEach es X.env := by rfl) (hpl : (backTo pos (starEach es X.env)).any (·.1) = false := by rfl) : PE X (.Call (.Name x p) (e :: es) [] pos) (tCB r t) := by
 intro pins s σ H Q I h
 refine wpAny_Call_Name_kw (zgo I hg hm hv ?_ hn hdb)
 exact PyProof.Rows.callWith_type1 (thn (ha pos pins s σ H _ I h) fun us s1 ⟨vs, H1, I1, r1, q1⟩ => hc pins s1 σ H1 vs us Q I1 r1 q1) he hpl
end
end L2
namespace HT
open PySem PyProof.Rows
section
open PySem.SeqAt
open PySem.AutoSeq1 (wpAny_loadPart')
open PySem.MeetsSeq PySem.MeetsSeq2 PySem.MeetsSeq3
end
section
variable {prog : Program} {w : World} {A : Around} {E : Value -> Shared -> Prop} {s : Shared}
noncomputable def sIx (n d : Nat) : Option Int -> Nat
 | none => d
 | some v => if v < 0 then (v + (n : Int)).toNat else min v.toNat n
theorem sIx_le (n d : Nat) (hd : d <= n) (o : Option Int) : sIx n d o <= n := by
 cases o with
 | none => exact hd
 | some v =>
  show (if v < 0 then (v + (n : Int)).toNat else min v.toNat n) <= n
  by_cases hv : v < 0
  ·rw [if_pos hv]; omega
  ·rw [if_neg hv]; exact Nat.min_le_right _ _
end
end HT
namespace L2
open PySem PySem.Spec PyProof.Rows
noncomputable abbrev TO := St -> Hp -> (Option Int -> Hp -> Prop) -> Prop
noncomputable def PO (X : Cx) (e : Option Expr) (t : TO) : Prop :=
 ∀ (pins : List (Addr × Obj)) (s : Shared) (σ : St) (H : Hp) (Q : Option Int -> Hp -> Prop), Inv X pins σ H s -> t σ H Q ->
  wpAny (model X.prog X.w) X.A (evalPart e X.env) (fun u s' => ∃ o H', Inv X pins σ H' s' /\ IsPart u o /\ Q o H') X.xe s
noncomputable def zmm : TO := fun _ H Q => Q none H
noncomputable def zt0 (t : TE) : TO := fun σ H Q => t σ H fun x H1 => ∃ i, x = .int i /\ Q (some i) H1
section
variable {X : Cx} {e : Expr} {te : TE} {lo hi : Option Expr} {tl th : TO} {pos p2 : Pos}
theorem zgb : PO X none zmm := by
 intro pins s σ H Q I h
 rw [evalPart_none]
 exact wpAny_pure ⟨none, H, I, .none, h⟩
theorem zc0 (h : PE X e te) : PO X (some e) (zt0 te) := by
 intro pins s σ H Q I hw
 rw [evalPart_some]
 refine thn (h pins s σ H _ I hw) fun u s1 hz9 => ?_
 obtain ⟨x, H1, I1, r1, q1⟩ := hz9
 obtain ⟨i, rfl, q⟩ := q1
 obtain ⟨t, rfl⟩ := r1
 exact ⟨some i, H1, I1, .int i t, q⟩
noncomputable def SlR (X : Cx) (r : V -> Option Int -> Option Int -> Hp -> VK -> Prop) : Prop :=
 ∀ (pins : List (Addr × Obj)) (s : Shared) (σ : St) (H : Hp) (x : V) (v vl vu : Value) (lo hi : Option Int) (sl : Addr) (Q : VK), Inv X pins σ H s -> RelV x v -> s.heap.IsSliceOf sl vl vu .none -> IsPart vl lo -> IsPart vu hi -> r x lo hi H Q ->
  ∃ T id, typeLookup (.type T) "__getitem__" = pure (some (.builtin id)) /\ s.TypeIs v T /\ wpAny (model X.prog X.w) X.A (getItem v (.ref sl)) (EP X pins σ Q) X.xe s
noncomputable def tSl (r : V -> Option Int -> Option Int -> Hp -> VK -> Prop) (te : TE) (tl th : TO) : TE := fun σ H Q => te σ H fun x H1 => tl σ H1 fun l H2 => th σ H2 fun u H3 => r x l u H3 Q
theorem zc2 {r : V -> Option Int -> Option Int -> Hp -> VK -> Prop} (hr : SlR X r) (he : PE X e te) (hl : PO X lo tl) (hu : PO X hi th) : PE X (.Subscript e (.Slice lo hi none p2) pos) (tSl r te tl th) := by
 intro pins s σ H Q I h
 refine Subscript_ (thn (he pins s σ H _ I h) fun v s1 hz9 => ?_)
 obtain ⟨x, H1, I1, r1, q1⟩ := hz9
 refine wpAny_Slice (thn (hl pins s1 σ H1 _ I1 q1) fun vl s2 ⟨l, H2, I2, pl, q2⟩ => thn (hu pins s2 σ H2 _ I2 q2) fun vu s3 hz9 => ?_)
 obtain ⟨u, H3, I3, pu, q3⟩ := hz9
 rw [evalPart_none]
 refine wpAny_pure ?_
 have I4 : Inv X pins σ H3 { s3 with heap := s3.heap.push { cls := .type "slice", data := .fields #[vl, vu, .none] } } := I3.kept (t':=s3.toks) fun b ob q => Heap.get?_push_of_some _ q
 obtain ⟨T, id, hT, ht, hg⟩ := hr pins { s3 with heap := s3.heap.push { cls := .type "slice", data := .fields #[vl, vu, .none] } } σ H3 x v vl vu l u s3.heap.objs.size Q I4 r1 (Heap.IsSliceOf.new ..) pl pu q3
 show wpAny (model X.prog X.w) X.A (subscriptTail e (.Slice lo hi none p2) v (.ref s3.heap.objs.size)) (EP X pins σ Q) X.xe { s3 with heap := s3.heap.push { cls := .type "slice", data := .fields #[vl, vu, .none] } }
 exact tail_any (ops:=[.ref s3.heap.objs.size, v]) ht hT hg (by with_unfolding_all rfl)
noncomputable def cutV (xs : List V) (lo hi : Option Int) : List V := (xs.drop (HT.sIx xs.length 0 lo)).take (HT.sIx xs.length xs.length hi - HT.sIx xs.length 0 lo)
theorem zjc (xs : List V) (lo hi : Option Int) : (cutV xs lo hi).length <= xs.length := by
 unfold cutV
 rw [List.length_take, List.length_drop]
 omega
end
end L2
namespace L2
open PySem PySem.Spec PyProof.Rows
noncomputable def ixN (n : Nat) (i : Int) : Option Nat := if 0 <= i then (if i < n then some i.toNat else none) else if -(n : Int) <= i then some (i + n).toNat else none
noncomputable def atI {α : Type} (xs : List α) (i : Int) : Option α := (ixN xs.length i).bind fun j => xs[j]?
theorem zr9 {n : Nat} {i : Int} {j : Nat} (h : ixN n i = some j) : seqIndex? i n = some j /\ j < n /\ -(n : Int) <= i /\ i < n := by
 unfold ixN at h
 by_cases h0 : 0 <= i
 ·rw [if_pos h0] at h
  by_cases h1 : i < n
  ·rw [if_pos h1] at h
   have e : i.toNat = j := Option.some.inj h
   exact ⟨by rw [seqIndex_of h0 h1, e], by omega, by omega, h1⟩
  ·rw [if_neg h1] at h; cases h
 ·rw [if_neg h0] at h
  by_cases h1 : -(n : Int) <= i
  ·rw [if_pos h1] at h
   have e : (i + n).toNat = j := Option.some.inj h
   exact ⟨by rw [seqIndex_neg (by omega) h1, e], by omega, h1, by omega⟩
  ·rw [if_neg h1] at h; cases h
theorem zjh {α : Type} {xs : List α} {i : Int} {v : α} (h : atI xs i = some v) : ∃ j, seqIndex? i xs.length = some j /\ xs[j]? = some v /\ j < xs.length /\ -(xs.length : Int) <= i /\ i < xs.length := by
 unfold atI at h
 cases e : ixN xs.length i with
 | none => rw [e] at h; cases h
 | some j =>
  rw [e] at h
  obtain ⟨h1, h2, h3, h4⟩ := zr9 e
  exact ⟨j, h1, h, h2, h3, h4⟩
theorem ze0 {α : Type} {xs : List α} {j : Nat} {v : α} (h : xs[j]? = some v) : atI xs (j : Int) = some v := by
 have hj : j < xs.length := (List.getElem?_eq_some_iff.mp h).1
 have e : ixN xs.length (j : Int) = some j := by
  unfold ixN
  rw [if_pos (by omega), if_pos (by omega)]; simp
 unfold atI; rw [e]; exact h
noncomputable def zrs (b : Expr) : Prop := ∀ o i, subscripted b false o i = operate [o, i] (getItem o i)
noncomputable def IxR (X : Cx) (r : R2) : Prop :=
 ∀ (value slice : Expr) (pins : List (Addr × Obj)) (s : Shared) (σ : St) (H : Hp) (x y : V) (v u : Value) (Q : VK), Inv X pins σ H s -> RelV x v -> RelV y u -> r x y H Q ->
  subscripted slice false v u = operate [v, u] (getItem v u) -> wpAny (model X.prog X.w) X.A (subscriptTail value slice v u) (EP X pins σ Q) X.xe s
noncomputable def MtR (X : Cx) (id : String) (r : V -> List V -> Hp -> VK -> Prop) : Prop :=
 ∀ (pins : List (Addr × Obj)) (s : Shared) (σ : St) (H : Hp) (x : V) (xs : List V) (v : Value) (us : List Value) (Q : VK), Inv X pins σ H s -> RelV x v -> Vals xs us -> r x xs H Q ->
  wpAny (model X.prog X.w) X.A (call (.builtin id) (v :: us)) (EP X pins σ Q) X.xe s
section
variable {X : Cx} {a b : Expr} {ta tb : TE} {pos : Pos}
theorem zbn {r : R2} (hr : IxR X r) (ha : PE X a ta) (hb : PE X b tb) (hs : zrs b) : PE X (.Subscript a b pos) (tOp r ta tb) := by
 intro pins s σ H Q I h
 exact Subscript_ (binT ha hb I h fun v u s2 x y H2 I2 rx ry q => hr a b pins s2 σ H2 x y v u Q I2 rx ry q (hs _ _))
noncomputable def rIxL (K : PySem.W.Frag) : R2 := fun x y H Q => ∃ p xs i v, x = .ref p /\ y = .int i /\ SqL K H p xs /\ atI xs i = some v /\ Q v H
noncomputable def rIxT (K : PySem.W.Frag) : R2 := fun x y H Q => ∃ p xs i v, x = .ref p /\ y = .int i /\ SqT K H p xs /\ atI xs i = some v /\ Q v H
noncomputable def rIxS : R2 := fun x y H Q => ∃ z i c, x = .str z /\ y = .int i /\ z.length <= sizeLine /\ atI z.cps.toList i = some c /\ Q (.str ⟨#[c]⟩) H
theorem zbb : IxR X (rIxL X.K) := by
 intro value slice pins s σ H x y v u Q I rx ry h hs
 obtain ⟨p, xs, i, z, rfl, rfl, hq, he, q⟩ := h
 cases rx
 obtain ⟨t, rfl⟩ := ry
 obtain ⟨its, r, pl, hz⟩ := I.list hq
 obtain ⟨j, h1, h2, h3, h4, h5⟩ := zjh he
 obtain ⟨w, ew, rw'⟩ := r.get h2
 have hl := r.length
 have hn := zkv
 have fin : EP X pins σ Q w s := ⟨z, H, I, rw', q⟩
 by_cases h0 : 0 <= i
 ·have hj : i.toNat = j := by
   rw [seqIndex_of h0 h5] at h1
   exact Option.some.inj h1
  exact item_listR pl.isList h0 (by omega) (by rw [hj]; simpa using ew) fin hs
 ·have hj : (i + (its.toArray.size : Int)).toNat = j := by
   rw [seqIndex_neg (by omega) h4] at h1
   rw [List.size_toArray, <- hl]
   exact Option.some.inj h1
  exact subscriptTail_builtinR (x:=w) pl.isList.typeIs slot_list_getitem.lookup
   (wpAny_getItem_list_neg (Q:=fun r s' => r = w /\ EP X pins σ Q r s') pl.isList (by omega) (by rw [List.size_toArray] <;> omega) (by omega) (by rw [hj]; simpa using ew) ⟨rfl, fin⟩) hs
theorem zdh : IxR X (rIxT X.K) := by
 intro value slice pins s σ H x y v u Q I rx ry h hs
 obtain ⟨p, xs, i, z, rfl, rfl, hq, he, q⟩ := h
 cases rx
 obtain ⟨t, rfl⟩ := ry
 obtain ⟨its, r, pl, hz⟩ := I.tuple hq
 obtain ⟨j, h1, h2, h3, h4, h5⟩ := zjh he
 obtain ⟨w, ew, rw'⟩ := r.get h2
 have hl := r.length
 have hn := zkv
 have fin : EP X pins σ Q w s := ⟨z, H, I, rw', q⟩
 exact subscriptTail_builtinR (x:=w) pl.typeIs slot_tuple_getitem.lookup
  (getItem_tuple (j:=j) (Q:=fun r s' => r = w /\ EP X pins σ Q r s') pl (by omega) (by omega) (by rw [List.size_toArray, <- hl]; exact h1) (by simpa using ew) ⟨rfl, fin⟩) hs
theorem zna : IxR X rIxS := by
 intro value slice pins s σ H x y v u Q I rx ry h hs
 obtain ⟨z, i, c, rfl, rfl, hz, he, q⟩ := h
 obtain ⟨t, rfl⟩ := rx
 obtain ⟨t', rfl⟩ := ry
 obtain ⟨j, h1, h2, h3, h4, h5⟩ := zjh he
 have hl : z.cps.toList.length = z.length := by simp [Str.length]
 rw [hl] at h1 h4 h5
 have hn := zkv
 exact tail_any (typeIs_str s z t) slot_str_getitem.lookup (getItem_str (c:=c) (by
  have e1 : decide (i < -(2 ^ 63 : Int)) = false := decide_eq_false (by omega)
  have e2 : decide (i ≥ 2 ^ 63) = false := decide_eq_false (by omega)
  rw [e1, e2, Bool.or_false]) (by rw [h1]; simpa using h2) ⟨.str ⟨#[c]⟩, H, I.tok _, ⟨_, rfl⟩, q⟩) hs
theorem zia (lo hi : Option Int) (n : Nat) : (sliceBounds lo hi none n).1 = ((HT.sIx n 0 lo : Nat) : Int) /\ (sliceBounds lo hi none n).2.1 = ((HT.sIx n n hi : Nat) : Int) /\ (sliceBounds lo hi none n).2.2 = 1 := by
 refine ⟨?_, ?_, rfl⟩
 ·cases lo with
  | none => simp [sliceBounds, HT.sIx]
  | some i =>
   simp only [sliceBounds, HT.sIx, Option.getD_none, show (1 : Int) > 0 by decide, if_true]
   by_cases h : i < 0
   ·simp only [h, if_true] <;> omega
   ·simp only [h, if_false] <;> omega
 ·cases hi with
  | none => simp [sliceBounds, HT.sIx]
  | some i =>
   simp only [sliceBounds, HT.sIx, Option.getD_none, show (1 : Int) > 0 by decide, if_true]
   by_cases h : i < 0
   ·simp only [h, if_true] <;> omega
   ·simp only [h, if_false] <;> omega
theorem zhy (its : List Value) (lo hi : Option Int) : slicePick its.toArray lo hi none = ((its.drop (HT.sIx its.length 0 lo)).take (HT.sIx its.length its.length hi - HT.sIx its.length 0 lo)).toArray := by
 obtain ⟨h1, h2, h3⟩ := zia lo hi its.toArray.size
 unfold slicePick
 rw [h1, h2, h3]
 simp only [sliceRange_one, pick_run, List.size_toArray] <;> rfl
noncomputable def rSlL (K : PySem.W.Frag) : V -> Option Int -> Option Int -> Hp -> VK -> Prop := fun x lo hi H Q => ∃ a xs, x = .ref a /\ SqL K H a xs /\ ∀ p, H p = none -> Q (.ref p) (upd H p (.lst (cutV xs lo hi)))
theorem zfz : SlR X (rSlL X.K) := by
 intro pins s σ H x v vl vu lo hi sl Q I rx hs pl pu h
 obtain ⟨a, xs, rfl, hx, q⟩ := h
 cases rx
 obtain ⟨its, r, ht, hz⟩ := I.list hx
 have hlen := r.length
 refine ⟨"list", _, slot_list_getitem.lookup, ht.isList.typeIs, ?_⟩
 refine wpAny_getItem_list_slice ht.isList hs pl pu .none (by simp) ?_ (by rw [List.size_toArray] <;> omega)
 rw [zhy, <- hlen]
 refine ⟨.ref s.heap.objs.size, _, I.laid (t':=s.toks) (o:=.lst (cutV xs lo hi)) (fun b ob q => Heap.get?_push_of_some _ q) (Nat.le_refl _) ?_, rfl, q _ (I.hok.fresh (Nat.le_refl _))⟩
 exact ⟨Nat.le_trans (zjc xs lo hi) hz, _, 0, (r.drop (HT.sIx xs.length 0 lo)).take (HT.sIx xs.length xs.length hi - HT.sIx xs.length 0 lo), Heap.get?_push_size _ rfl⟩
theorem zb0 : zca X (.builtin "len") (fun xs H Q => ∃ p ys, xs = [.ref p] /\ (SqL X.K H p ys \/ SqT X.K H p ys) /\ Q (.int ys.length) H) := by
 intro pins s σ H xs us Q I r h
 obtain ⟨p, ys, rfl, hq, q⟩ := h
 obtain ⟨u, rfl, rx⟩ := zj8 r
 cases rx
 have hn := zkv
 rcases hq with hq | hq
 ·obtain ⟨its, r', pl, hz⟩ := I.list hq
  have hlen := r'.length
  exact Calls.call_len_list pl.isList (by simp only [List.size_toArray] <;> omega) ⟨.int ys.length, H, I.tok _, ⟨s.toks + 1, by rw [List.size_toArray, hlen]⟩, q⟩
 ·obtain ⟨its, r', pl, hz⟩ := I.tuple hq
  have hlen := r'.length
  exact len_tuple pl (by simp only [List.size_toArray] <;> omega) ⟨.int ys.length, H, I.tok _, ⟨s.toks + 1, by rw [List.size_toArray, hlen]⟩, q⟩
theorem zfa : zca X (.type "list") (fun xs H Q => ∃ p ys, xs = [.ref p] /\ (SqL X.K H p ys \/ SqT X.K H p ys) /\ ∀ l, H l = none -> Q (.ref l) (upd H l (.lst ys))) := by
 intro pins s σ H xs us Q I r h
 obtain ⟨p, ys, rfl, hq, q⟩ := h
 obtain ⟨u, rfl, rx⟩ := zj8 r
 cases rx
 have fin : ∀ (its : List Value), Vals ys its -> ys.length <= sizeLine -> ∀ (h' : Heap) (c' : Nat), (∀ b o', s.heap.get? b = some o' -> h'.get? b = some o') ->
   h'.get? s.heap.objs.size = some { cls := .type "list", dict := none, data := .seq its.toArray c', slots := #[] } -> EP X pins σ Q (.ref s.heap.objs.size) { s with heap := h' } := fun its r' hz h' c' kp e =>
  ⟨.ref s.heap.objs.size, _, I.laid (t':=s.toks) kp (Nat.le_refl _) (show zb4 X.prog X.w _ h' _ (.lst ys) from ⟨hz, its, c', r', e⟩), rfl, q _ (I.hok.fresh (Nat.le_refl _))⟩
 rcases hq with hq | hq
 ·obtain ⟨its, r', pl, hz⟩ := I.list hq
  have hlen := r'.length
  obtain ⟨o, ho, hc, n, hd⟩ := pl.isList
  exact call_list_seq p (.inl rfl) ho hc hd (fun h' c' kp e => fin its r' hz h' c' kp e) (by simp only [List.size_toArray] <;> omega)
 ·obtain ⟨its, r', pl, hz⟩ := I.tuple hq
  have hlen := r'.length
  obtain ⟨o, ho, hc, n, hd⟩ := pl
  exact call_list_seq p (.inr rfl) ho hc hd (fun h' c' kp e => fin its r' hz h' c' kp e) (by simp only [List.size_toArray] <;> omega)
noncomputable def tyV (K : PySem.W.Frag) (T : String) (x : V) (H : Hp) : Prop := match x with
 | .str _ => T = "str"
 | .int _ => T = "int"
 | .ref p => (T = "list" /\ ∃ xs, SqL K H p xs) \/ (T = "tuple" /\ ∃ o, K.lookup p = some o /\ o.cls = .type "tuple" /\ o.dict = none) \/
   (T = "dict" /\ ((∃ kvs, H p = some (.dK kvs)) \/ ∃ kvs, H p = some (.dT kvs))) \/ (T = "set" /\ ∃ S n, H p = some (.set S n))
 | _ => False
theorem zq8 {pins : List (Addr × Obj)} {σ : St} {H : Hp} {s : Shared} {T : String} {x : V} {v : Value} (I : Inv X pins σ H s) (r : RelV x v) (ty : tyV X.K T x H) :
  s.TypeIs v T /\ ∀ a, v = .ref a -> ∃ ob, s.heap.get? a = some ob /\ ob.dict = none := by
 cases x with
 | str z =>
  obtain ⟨t, rfl⟩ := r
  cases (show T = "str" from ty)
  exact ⟨typeIs_str s z t, fun _ e => nomatch e⟩
 | int i =>
  obtain ⟨t, rfl⟩ := r
  cases (show T = "int" from ty)
  exact ⟨typeIs_int s i t, fun _ e => nomatch e⟩
 | ref p =>
  cases r
  rcases ty with ⟨rfl, xs, hq⟩ | ⟨rfl, o, hk, hc, hd⟩ | ⟨rfl, hk⟩ | ⟨rfl, S, n, hk⟩
  ·obtain ⟨its, _, pl, _⟩ := I.list hq
   refine ⟨pl.isList.typeIs, fun a e => ?_⟩
   cases e
   obtain ⟨o, n, e, c, hd, _⟩ := pl
   exact ⟨o, e, hd⟩
  ·refine ⟨⟨o, I.kIn p o hk, hc⟩, fun a e => ?_⟩
   cases e
   exact ⟨o, I.kIn _ o hk, hd⟩
  ·have z : ∃ o, s.heap.get? p = some o /\ o.ExactDict := by
    rcases hk with ⟨kvs, hk⟩ | ⟨kvs, hk⟩
    ·obtain ⟨_, _, _, _, o, _, _, e, ex, _⟩ := I.hok p _ hk
     exact ⟨o, e, ex⟩
    ·obtain ⟨_, _, _, _, o, _, _, e, ex, _⟩ := I.hok p _ hk
     exact ⟨o, e, ex⟩
   obtain ⟨o, e, ex⟩ := z
   refine ⟨⟨o, e, ex.1⟩, fun a e2 => ?_⟩
   cases e2
   exact ⟨o, e, ex.2.1⟩
  ·obtain ⟨o, _, _, _, e, ex, _⟩ := I.hok p _ hk
   refine ⟨⟨o, e, ex.1⟩, fun a e2 => ?_⟩
   cases e2
   exact ⟨o, e, ex.2.1⟩
 | _ => exact False.elim ty
noncomputable def tBM0 (K : PySem.W.Frag) (T : String) (r : V -> List V -> Hp -> VK -> Prop) (to : TE) : TE := fun σ H Q => to σ H fun x H1 => tyV K T x H1 /\ r x [] H1 Q
noncomputable def tBM (K : PySem.W.Frag) (T : String) (r : V -> List V -> Hp -> VK -> Prop) (to : TE) (t : TA) : TE := fun σ H Q => to σ H fun x H1 => tyV K T x H1 /\ t σ H1 fun xs H2 => r x xs H2 Q
variable {o e : Expr} {es : List Expr} {to : TE} {t : TA} {name : Str} {apos cpos : Pos} {T id : String} {r : V -> List V -> Hp -> VK -> Prop}
theorem zko (pa : PlainAttrs T) (slot : Slot T name id) (hty : typeOf (.builtin id) = pure (.type "method_descriptor")) (hm : MtR X id r) (ho : PE X o to)
  (hbase : attributeBase o name X.env (eval o X.env) = eval o X.env := by rfl) (hline : (apos.endLine == cpos.line) = true := by rfl) : PE X (.Call (.Attribute o name apos) [] [] cpos) (tBM0 X.K T r to) := by
 intro pins s σ H Q I h
 refine wpAny_Call_method0_late hbase hline (thn (ho pins s σ H _ I h) fun v s1 hz9 => ?_)
 obtain ⟨x, H1, I1, r1, ty, q1⟩ := hz9
 obtain ⟨h1, h2⟩ := zq8 I1 r1 ty
 exact ⟨T, id, pa, slot, hty, h1, h2, Calls.callWith_builtin rfl (PySem.evalArgs_none (hm pins s1 σ H1 x [] v [] Q I1 r1 .nil q1))⟩
theorem zgj (pa : PlainAttrs T) (slot : Slot T name id) (hty : typeOf (.builtin id) = pure (.type "method_descriptor")) (hm : MtR X id r) (ho : PE X o to) (ha : PA X (e :: es) t)
  (hbase : attributeBase o name X.env (eval o X.env) = eval o X.env := by rfl)
  (hfew : ((backTo cpos (starEach (e :: es) X.env)).all (fun x => !x.1) && (backToKw cpos (keywordEach [] X.env)).all (fun x => x.1.isSome)
   && decide ((e :: es).length + ([] : List Keyword).length + (if ([] : List Keyword).isEmpty then 0 else 1) < 30)) = true := by rfl)
  (hline : (apos.endLine == cpos.line) = true := by rfl) (hs : starEach (e :: es) X.env = (false, eval e X.env) :: starEach es X.env := by rfl) (hplain : (backTo cpos (starEach es X.env)).any (·.1) = false := by rfl) :
  PE X (.Call (.Attribute o name apos) (e :: es) [] cpos) (tBM X.K T r to t) := by
 intro pins s σ H Q I h
 refine wpAny_Call_method_late hbase hfew hline rfl (thn (ho pins s σ H _ I h) fun v s1 hz9 => ?_)
 obtain ⟨x, H1, I1, r1, ty, q1⟩ := hz9
 obtain ⟨h1, h2⟩ := zq8 I1 r1 ty
 refine ⟨T, id, pa, slot, hty, h1, h2, ?_⟩
 have hA := ha cpos pins s1 σ H1 _ I1 q1
 rw [hs] at hA ⊢
 refine Calls.callWith_builtin (by show (false || (backTo cpos (starEach es X.env)).any (·.1)) = false; rw [hplain] <;> rfl) (Calls.evalArgs_plain ?_)
 refine thn hA fun us s2 hz9 => ?_
 obtain ⟨vs, H2, I2, r2, q2⟩ := hz9
 exact hm pins s2 σ H2 x vs v us Q I2 r1 r2 q2
end
end L2
namespace L2
open PySem PySem.Spec PyProof.Rows
noncomputable def MtM (X : Cx) (id : String) (r : V -> List V -> Hp -> VK -> Prop) : Prop :=
 ∀ (pins : List (Addr × Obj)) (s : Shared) (σ : St) (H : Hp) (x : V) (xs : List V) (v : Value) (us : List Value) (Q : VK), Inv X pins σ H s -> RelV x v -> Vals xs us -> r x xs H Q ->
  wpAny (model X.prog X.w) X.A (call (.builtin id) (v :: us)) (EP X pins σ Q) X.xe s
theorem Vals.one : ∀ {x : V} {us : List Value}, Vals [x] us -> ∃ u, us = [u] /\ RelV x u
 | _, _, .cons r .nil => ⟨_, rfl, r⟩
theorem Vals.zero : ∀ {us : List Value}, Vals [] us -> us = []
 | _, .nil => rfl
theorem Vals.reverse {xs : List V} {us : List Value} (h : Vals xs us) : Vals xs.reverse us.reverse := by
 induction h with
 | nil => exact .nil
 | cons r t ih => rw [List.reverse_cons, List.reverse_cons]; exact Vals.append ih (.cons r .nil)
section
variable {X : Cx} {pins : List (Addr × Obj)} {σ : St} {H : Hp} {s : Shared} {l b : Addr} {xs ys zs : List V}
theorem Inv.lset {its its' : List Value} {n : Nat} {f : Array Value -> Array Value} {t' : Nat} (I : Inv X pins σ H s) (hH : H l = some (.lst xs))
  (e : s.heap.get? l = some { cls := .type "list", data := .seq its.toArray n }) (hf : f its.toArray = its'.toArray) (hv : Vals ys its') (hz : ys.length <= sizeLine) :
  Inv X pins σ (upd H l (.lst ys)) { s with heap := s.heap.update l (Obj.mapSeq f), toks := t' } := by
 have q := PySem.IsL.update e f
 rw [hf] at q
 refine I.write (x:=l) (e:=l) (by rw [hH]; exact trivial) (.inl rfl) (fun b' u hb hu => (Heap.get?_update_other s.heap (Obj.mapSeq f) (Ne.symm hb)).trans hu) ⟨_, q⟩ ?_
 exact ⟨hz, its', _, hv, q⟩
theorem Inv.lnew {its : List Value} {t' : Nat} (I : Inv X pins σ H s) (hv : Vals ys its) (hz : ys.length <= sizeLine) :
  Inv X pins σ (upd H s.heap.objs.size (.lst ys)) { s with heap := s.heap.push { cls := .type "list", data := .seq its.toArray }, toks := t' } :=
 I.laid (fun _ _ q => Heap.get?_push_of_some _ q) (Nat.le_refl _) ⟨hz, its, 0, hv, Heap.get?_push_size _ rfl⟩
theorem Inv.fresh (I : Inv X pins σ H s) : H s.heap.objs.size = none := I.hok.fresh (Nat.le_refl _)
theorem Inv.lstM (I : Inv X pins σ H s) (hH : H l = some (.lst xs)) : xs.length <= sizeLine /\ ∃ (its : List Value) (n : Nat), Vals xs its /\ xs.length = its.length /\ s.heap.get? l = some { cls := .type "list", data := .seq its.toArray n } := by
 obtain ⟨z, its, n, r, e⟩ := I.hok l _ hH
 exact ⟨z, its, n, r, r.length, e⟩
end
section
variable {X : Cx}
noncomputable def zhi : V -> List V -> Hp -> VK -> Prop := fun x vs H Q => ∃ l xs y, x = .ref l /\ vs = [y] /\ H l = some (.lst xs) /\ xs.length < sizeLine /\ Q .non (upd H l (.lst (xs ++ [y])))
theorem zcc : MtM X "list.append" zhi := by
 intro pins s σ H x vs v us Q I rx rv h
 obtain ⟨l, xs, y, rfl, rfl, hH, hz, q⟩ := h
 cases rx
 obtain ⟨u, rfl, ru⟩ := rv.one
 obtain ⟨z, its, n, r, hl, e⟩ := I.lstM hH
 refine call_meets F.slot_list_append ⟨_, e, rfl⟩ F.entry_list_append (F.args_list_append_2 _ _) (PySem.list_append l its.toArray n u (by rw [List.size_toArray]; omega)) ⟨e, ?_⟩
 refine ⟨.non, _, I.lset (its':=its ++ [u]) hH e (by simp) (r.append (.cons ru .nil)) ?_, rfl, q⟩
 rw [List.length_append, List.length_singleton]
 omega
noncomputable def zmu : V -> List V -> Hp -> VK -> Prop := fun x vs H Q => ∃ l xs, x = .ref l /\ vs = [] /\ H l = some (.lst xs) /\ Q .non (upd H l (.lst []))
theorem zlb : MtM X "list.clear" zmu := by
 intro pins s σ H x vs v us Q I rx rv h
 obtain ⟨l, xs, rfl, rfl, hH, q⟩ := h
 cases rx
 have hus := rv.zero
 subst hus
 obtain ⟨z, its, n, r, hl, e⟩ := I.lstM hH
 refine call_meets F.slot_list_clear ⟨_, e, rfl⟩ F.entry_list_clear (F.args_list_clear_1 _) (AutoSeq1.list_clear_list_0 l its.toArray n (by rw [List.size_toArray]; omega)) ⟨e, ?_⟩
 exact ⟨.non, _, I.lset (its':=[]) (ys:=[]) hH e rfl .nil (Nat.zero_le _), rfl, q⟩
end
end L2
namespace Att
open PySem PySem.W PySem.Calls PyProof.Rows
theorem zf3 {P : Params} {h : Heap} : ∀ (ns : List Int) (vs : List Value), WellAll P h vs (ns.map WData.int) -> IntsAre vs ns := by
 intro ns
 induction ns with
 | nil =>
  intro vs w
  rw [List.map_nil] at w
  cases w
  exact .nil
 | cons n ns ih =>
  intro vs w
  rw [List.map_cons] at w
  cases w with
  | cons a b =>
   cases a
   exact .cons _ _ (ih _ b)
theorem znc {l : OpenLaw} {n : Nat} (hn : l.most = some n) {P : Params} {h : Heap} {args : List WData} {vals : List Value}
  (hpre : l.row.toRowW.claim.pre args = true) (hwl : WellAll P h vals args) :
  ∃ a vs ns, vals = [Value.ref a] /\ args = [WData.list (ns.map WData.int)] /\ h.get? a = some { cls := .type "list", data := .seq vs.toArray } /\ IntsAre vs ns /\ ns.length <= n := by
 have hsh : WShape.hasAll [] args [.list .int] = true := (pre_splitW hpre).1
 have hc : l.pre.holds [] { args := args } = true := (pre_splitW hpre).2
 obtain ⟨d, r, rfl, h1, h2⟩ := hasAllW_cons hsh
 obtain rfl := hasAllW_nil h2
 obtain ⟨xs, rfl, h3⟩ := hasW_list h1
 obtain ⟨ns, rfl⟩ := items_int h3
 have hlen : ns.length <= n := by
  unfold OpenLaw.pre at hc
  have h4 : (WTm.not (.lt (.lit (.int (n : Int))) (.len (.arg 0)))).holds [] { args := [.list (ns.map .int)] } = true := by
   have h4 := (holds_andW hc).1
   rw [hn] at h4
   exact h4
  have h5 := condW_of h4 (w_not (w_lt w_lit (w_len_list (w_arg rfl))))
  rw [List.length_map] at h5
  refine Nat.le_of_not_lt fun q => ?_
  have q' : (n : Int) < ((ns.length : Nat) : Int) := by omega
  first
   | (rw [decide_eq_true q'] at h5; exact absurd h5 (by decide))
   | (simp at h5; omega)
 cases hwl with
 | cons w1 w2 =>
  cases w2
  cases w1 with
  | list ho hall => exact ⟨_, _, ns, rfl, rfl, ho, zf3 ns _ hall, hlen⟩
theorem zm2 (l : OpenLaw) (args : List WData) : l.row.toRowW.claim.post args (.bool true) args = true :=
 postW_of (r:=l.row.toRowW) (X:=(true == true))
  (show WShape.has [] (.bool true) .bool = true by first | rfl | decide | simp [WShape.has, WShape.arms, WShape.armsAll])
  (show (WTm.eq .res (.lit (.bool true))).value [] { args := args, res := some (.bool true), after := args } = some (.bool (true == true)) from w_eq_bool (w_res rfl) w_lit) rfl
theorem attach_call {l : OpenLaw} {n : Nat} {q : Program} {loose : List Str} {XP : (Str -> Option Value) -> Heap -> Prop} {YP : World -> Heap -> Prop} {d : DefRec}
  (hn : l.most = some n) (hdf : d.params.defaults = [])
  (call : ∀ (w : World) (s₀ s₁ : Shared) (mg mb : Str -> Option Value) (fa : Addr) (o : Obj) (pm cd doc : Value) (a : Addr) (vs : List Value) (ns : List Int),
   Ground q loose [] XP w s₀ mg mb s₁.heap -> YP w s₁.heap ->
   s₁.heap.get? fa = some o -> o.data = .func (docDef d.name d.params d.body d.scope pm cd doc) -> s₁.heap.CodeRec cd d.name -> mg d.name = some (.ref fa) ->
   s₁.heap.get? a = some { cls := .type "list", data := .seq vs.toArray } -> IntsAre vs ns -> ns.length <= n -> s₁.gens = #[] ->
   codeAny (model l.prog w) callerA (.call (.ref fa) ⟨[.ref a], []⟩) (fun r s' => r = .ok (.ret (.bool true)) /\ OldK s₁.heap s'.heap /\ s'.os = s₁.os /\ AllBare s'.gens) s₁) :
  WalkO q loose XP YP l.row.toRowW d [] (fun f vs => PySem.call f vs) := by
 intro w s₀ s₁ mg mb G Y fa o pm cd doc dV kV ho hd hcd hD hmg hg args vals as hpre hlay hrd hwl hlo
 obtain rfl : dV = .none := Dflts.none hD hdf
 obtain rfl : kV = .none := Dflts.noKw hD
 obtain ⟨a, vs, ns, rfl, rfl, hobj, hints, hlen⟩ := znc hn hpre hwl
 refine enter_call (codeAny_mono (call w s₀ s₁ mg mb fa o pm cd doc a vs ns G Y ho (fd_plain hd) hcd hmg hobj hints hlen hg) fun r s' hq => ?_)
 obtain ⟨rfl, h2, h3, h4⟩ := hq
 exact ⟨.inl ⟨.bool true, .bool true, [], rfl, fun _ => rfl, .bool true, zm2 l _, fun _ => ⟨List.Pairwise.nil, fun _ hm => (nomatch hm)⟩⟩, h2, h3, h4⟩
section
variable {prog : Program} {w : World} {A : Around} {E : Value -> Shared -> Prop} {s : Shared} {K : Frag}
end
end Att
namespace L2
open PySem PySem.Spec PyProof.Rows
theorem zix : ∀ {vs : List Value} {ns : List Int}, IntsAre vs ns -> Vals (ns.map V.int) vs
 | _, _, .nil => .nil
 | _, _, .cons n t h => .cons ⟨t, rfl⟩ (zix h)
noncomputable def Only (H : Hp) : Prop := ∀ b, H b = none \/ ∃ o xs, H b = some (.frz o (.lst xs))
theorem zps {P : Program} {w : World} {K : PySem.W.Frag} {mg mb : Str -> Option Value} {CX : CXT} {k : Nat} {fa a : Addr} {fd : FuncData} {x : Str} {sp : Sp} {s₁ : Shared} {vs : List Value} {ns : List Int}
  (KX : K.In s₁.heap) (hns : s₁.heap.Ns mainGlobals mg) (hb : s₁.heap.Ns builtinsNs mb) (hbb : ∀ x : Str, x ≠ "__name__" -> mb x = bootBuiltins x) (hlim : s₁.heap.NoLimit) (hg : s₁.gens = #[])
  (ha : s₁.heap.get? a = some { cls := .type "list", data := .seq vs.toArray }) (hi : IntsAre vs ns) (hl : ns.length <= sizeLine) (hr : Room k callerA)
  (F : ∀ base : Heap, K.In base -> base.Ns mainGlobals mg -> FnOk P w K mg base CX k fa fd [x] sp) (hbind : ∀ (s : Shared) (u : Value), BindsTo s fd ⟨[u], []⟩ [(x, u)])
  (hsp : ∀ H : Hp, Only H -> SqL K H a (ns.map V.int) -> sp [.ref a] H (fun v _ => v = .bl true) fun _ _ _ => False)
  (hCX : ∀ H e s', CX [] H s₁ (fun _ _ _ => False) e s' -> False) :
  codeAny (model P w) callerA (.call (.ref fa) ⟨[.ref a], []⟩) (fun r s' => r = .ok (.ret (.bool true)) /\ OldK s₁.heap s'.heap /\ s'.os = s₁.os /\ AllBare s'.gens) s₁ := by
 have rv := zix hi
 have lenV := hi.length
 -- from an abstract heap in which nothing but the script may be tracked
 have core : ∀ H : Hp, Only H -> SqL K H a (ns.map V.int) -> HOk P w H s₁.heap -> (∀ b, H b ≠ none -> b = a) -> (H a ≠ none -> K.lookup a = none) ->
   codeAny (model P w) callerA (.call (.ref fa) ⟨[.ref a], []⟩) (fun r s' => r = .ok (.ret (.bool true)) /\ OldK s₁.heap s'.heap /\ s'.os = s₁.os /\ AllBare s'.gens) s₁ := by
  intro H hO hS hok hA hK
  have base_of : ∀ {b : Addr} {o : Obj}, s₁.heap.get? b = some o -> H b = none -> (hidT s₁.heap H).get? b = some o := fun e n => zqs e n
  have noA : ∀ {b : Addr} {o : Obj} {es : Array DictEntry} {ep : Nat}, s₁.heap.get? b = some o -> o.data = .dict es ep -> H b = none := fun {b o es ep} e d => by
   cases q : H b with
   | none => rfl
   | some u =>
    have e' : b = a := hA b (by rw [q]; simp)
    subst e'
    rw [ha] at e; cases e
    have d' : Data.seq vs.toArray _ = Data.dict es ep := d
    cases d'
  have nsK : ∀ {b : Addr} {m : Str -> Option Value}, s₁.heap.Ns b m -> (hidT s₁.heap H).Ns b m := fun {b m} ⟨o, es, ep, e, d, r⟩ => ⟨o, es, ep, base_of e (noA e d), d, r⟩
  have hKb : K.In (hidT s₁.heap H) := fun b o e => base_of (KX b o e) (by
   cases q : H b with
   | none => rfl
   | some u =>
    have e' : b = a := hA b (by rw [q]; simp)
    subst e'
    rw [hK (by rw [q]; simp)] at e; cases e)
  have hM : Mod K mg (hidT s₁.heap H) := ⟨hKb, nsK hns, ⟨mb, nsK hb, hbb⟩, let ⟨mc, h1, h2⟩ := hlim; ⟨mc, nsK h1, h2⟩⟩
  have e0 : Env0 P w K mg (hidT s₁.heap H) callerA [] s₁ H := ⟨rfl, hM, fun b o e => zru e, Nat.le_of_eq (znt _ _), trivial, fun b hb => absurd (show b ∈ ([] : List Addr) from hb) (by simp), hok, .of_eq hg⟩
  refine codeAny_mono ((F _ hKb (nsK hns)).run callerA [] s₁ H ⟨[.ref a], []⟩ [.ref a] [.ref a] _ _ hr e0 (hbind s₁ (.ref a)) (.cons rfl .nil) (hsp H hO hS)) fun r s' h => ?_
  cases r with
  | error e => exact (hCX H e s' h).elim
  | ok fl =>
   cases fl with
   | next => exact False.elim h
   | brk => exact False.elim h
   | cont => exact False.elim h
   | ret u =>
    obtain ⟨v, H', os, bare, un, hok', r', q⟩ := h
    have q' : v = .bl true := q
    subst q'
    obtain rfl : u = Value.bool true := r'
    refine ⟨rfl, OldK.of_keep fun b o e => ?_, os, bare⟩
    cases q : H b with
    | none => exact un.keep b o e q (by intro z; exact absurd (show b ∈ ([] : List Addr) from z) (by simp)) (by simp)
    | some u =>
     rcases hO b with z | ⟨ob, xs, z⟩
     ·rw [q] at z; cases z
     ·have z2 := un.frzs b ob _ z
      obtain ⟨e1, _⟩ := hok b _ z
      obtain ⟨e2, _⟩ := hok' b _ z2
      rw [e] at e1; cases e1
      exact e2
 cases hk : K.lookup a with
 | some o =>
  -- the script is one of the module's own objects
  have e := KX a o hk
  rw [ha] at e
  cases e
  refine core (fun _ => none) (fun _ => .inl rfl) (.inr ⟨_, vs.toArray, _, hk, rfl, rfl, rfl, by rw [List.size_toArray, lenV]; exact hl, by simpa using rv⟩) (fun b u z => by have z' : (none : Option HO) = some u := z; cases z') (fun b z => absurd rfl z) fun z => absurd rfl z
 | none =>
  refine core (fun b => if b = a then some (.frz { cls := .type "list", data := .seq vs.toArray } (.lst (ns.map V.int))) else none) (fun b => ?_) (.inl (.inr ⟨{ cls := .type "list", data := .seq vs.toArray }, if_pos rfl⟩)) (fun b u z => ?_) (fun b z => ?_) fun _ => hk
  ·by_cases hb : b = a
   ·exact .inr ⟨_, _, if_pos hb⟩
   ·exact .inl (if_neg hb)
  ·by_cases hb : b = a
   ·have z' := (if_pos hb).symm.trans z
    cases z'
    subst hb
    exact ⟨ha, by rw [List.length_map]; exact hl, vs, _, rv, ha⟩
   ·have z' := (if_neg hb).symm.trans z
    cases z'
  ·by_cases hb : b = a
   ·exact hb
   ·exact absurd (if_neg hb) z
end L2
namespace L2
open PySem PySem.Spec PyProof.Rows
theorem walk_of {l : PySem.W.OpenLaw} {n k : Nat} {q : Program} {loose : List Str} {XP : (Str -> Option Value) -> Heap -> Prop} {YP : World -> Heap -> Prop} {d : DefRec} {K : Params -> PySem.W.Frag} {CX : World -> CXT} {sp : World -> Sp} {x : Str}
  (hn : l.most = some n) (hn2 : n <= sizeLine) (hdf : d.params.defaults = []) (hr : Room k callerA)
  (hY : ∀ (w : World) (h : Heap), YP w h -> (K w.params).In h)
  (F : ∀ (w : World) (mg : Str -> Option Value) (fa : Addr) (h : Heap), (K w.params).In h -> h.Ns mainGlobals mg -> mg d.name = some (.ref fa) ->
   ∃ fd : FuncData, (∀ (s : Shared) (u : Value), BindsTo s fd ⟨[u], []⟩ [(x, u)]) /\
    ∀ base : Heap, (K w.params).In base -> base.Ns mainGlobals mg -> FnOk l.prog w (K w.params) mg base (CX w) k fa fd [x] (sp w))
  (hsp : ∀ (w : World) (H : Hp) (a : Addr) (ns : List Int), ns.length <= n -> Only H -> SqL (K w.params) H a (ns.map V.int) -> sp w [.ref a] H (fun v _ => v = .bl true) fun _ _ _ => False)
  (hCX : ∀ (w : World) (H : Hp) (s : Shared) (e : Value) (s' : Shared), CX w [] H s (fun _ _ _ => False) e s' -> False) :
  PySem.W.WalkO q loose XP YP l.row.toRowW d [] (fun f vs => PySem.call f vs) := by
 refine Att.attach_call hn hdf fun w s₀ s₁ mg mb fa o pm cd doc a vs ns G Y ho hd hcd hmg hobj hints hlen hg => ?_
 have KX := hY w _ Y
 obtain ⟨fd, hb, hF⟩ := F w mg fa _ KX G.T.g hmg
 exact zps KX G.T.g G.T.b G.T.builtins G.T.nolimit hg hobj hints (Nat.le_trans hlen hn2) hr hF hb (fun H hO hS => hsp w H a ns hlen hO hS) fun H e s' => hCX w H s₁ e s'
end L2
namespace L2
open PySem PySem.Spec PyProof.Rows
noncomputable def zas (s : Stmt) : Arguments := match s with
 | .FunctionDef _ a _ _ _ _ _ _ _ _ => a
 | _ => { posonlyargs := [], args := [], vararg := none, kwonlyargs := [], kw_defaults := [], kwarg := none, defaults := [] }
noncomputable def zaq (s : Stmt) : List Stmt := match s with
 | .FunctionDef _ _ b _ _ _ _ _ _ _ => b
 | _ => []
noncomputable def zad (s : Stmt) : Scope := match s with
 | .FunctionDef _ _ _ _ _ _ sc _ _ _ => sc
 | _ => { kind := .function, names := [], isGenerator := false, isCoroutine := false }
noncomputable abbrev CX0 : CXT := fun _ _ _ _ _ _ => False
noncomputable abbrev E0 : XK := fun _ _ _ => False
theorem zes {X : Cx} : zo2 CX0 X E0 := fun _ _ _ _ _ _ _ h => h.elim
structure Fun (K : PySem.W.Frag) (x qual : Str) (st : Stmt) (f : Addr) (fd : FuncData) : Prop where
 ex : ∃ (oc : Value) (od : Option Addr) (kV doc pm : Value) (an : Option Addr) (cdv ct : Value) (osl : Array (Option Value)),
  fd = PySem.W.fnOf x qual (zas st) (zaq st) (zad st) .none kV doc pm an cdv ct /\ K.lookup f = some ⟨oc, od, .func fd, osl⟩ /\ PySem.W.codeIn K cdv qual = true
 kp : PySem.W.keepIn K (.ref f) = true
section
variable {P : Program} {w : World} {K : PySem.W.Frag} {mg : Str -> Option Value} {base : Heap}
theorem Fun.ok {x qual : Str} {st : Stmt} {f : Addr} {fd : FuncData} {N ps : List Str} {k : Nat} {sp : Sp} (F : Fun K x qual st f fd) (S : FnScope N ps (zad st)) (len : ∀ vs H Q E, sp vs H Q E -> vs.length = ps.length)
  (hbody : ∀ (cdv : Value) (A : Around) (outer : List Env) (s : Shared) (H : Hp) (vs : List V) (Q : VK) (E : XK), Room k (A.deeper (envOfC qual (zad st) s.heap.objs.size f cdv)) -> sp vs H Q E ->
   ∃ t, PSs (cxOf CX0 P w K mg base N qual (zad st) f cdv A outer s H E).nox (zaq st) t /\ t { nx := fun _ H' => Q .non H', rt := Q } (zdy N vs) H) : FnOk P w K mg base CX0 (k + 1) f fd ps sp := by
 obtain ⟨oc, od, kV, doc, pm, an, cdv, ct, osl, rfl, lk, hcd⟩ := F.ex
 refine zu6 lk hcd S len fun A outer s H vs Q E hr hsp => ?_
 obtain ⟨t, h, q⟩ := hbody cdv A outer s H vs Q E hr hsp
 exact ⟨t, h.nox, q⟩
theorem Fun.binds {x qual : Str} {st : Stmt} {f : Addr} {fd : FuncData} {ps : List Str} (F : Fun K x qual st f fd)
  (h : ∀ (kV doc pm : Value) (an : Option Addr) (cdv ct : Value) (us : List Value), us.length = ps.length -> bindArgs (PySem.W.fnOf x qual (zas st) (zaq st) (zad st) .none kV doc pm an cdv ct) ⟨us, []⟩ = pure (ps.zip us)) : zd0 K fd ps [] := by
 obtain ⟨oc, od, kV, doc, pm, an, cdv, ct, osl, rfl, lk, hcd⟩ := F.ex
 exact .all (h kV doc pm an cdv ct)
theorem zdg {x qual : Str} {st : Stmt} {f : Addr} {oc : Value} {od an : Option Addr} {osl : Array (Option Value)} {kV doc pm cdv ct : Value} (l : K.lookup f = some ⟨oc, od, .func (PySem.W.fnOf x qual (zas st) (zaq st) (zad st) .none kV doc pm an cdv ct), osl⟩)
  (c : PySem.W.codeIn K cdv qual = true) (k : PySem.W.keepIn K (.ref f) = true) : Fun K x qual st f (PySem.W.fnOf x qual (zas st) (zaq st) (zad st) .none kV doc pm an cdv ct) := ⟨⟨oc, od, kV, doc, pm, an, cdv, ct, osl, rfl, l, c⟩, k⟩
end
section
variable {X : Cx}
theorem pv (i : Nat) {x : Str} {pos : Pos} (hN : X.N[i]? = some x := by rfl) (hv : Vis X.env.scope x := by first | exact Or.inl rfl | exact Or.inr (Or.inl rfl) | exact Or.inr (Or.inr rfl)) (hd : (x == ("__debug__" : Str)) = false := by decide)
  (hcd : (x == ("__classdict__" : Str)) = false := by decide) : PE X (.Name x pos) (tVar i) := zua hN hv hd hcd
end
theorem iteF {A B : Prop} (h : B) : if false = true then A else B := by
 rw [if_neg Bool.false_ne_true]
 exact h
theorem iteT {A B : Prop} (h : A) : if true = true then A else B := by
 rw [if_pos rfl]
 exact h
noncomputable def Same (H H' : Hp) : Prop := ∀ b o, H b = some o -> H' b = some o
theorem Same.refl (H : Hp) : Same H H := fun _ _ h => h
theorem Same.trans {H H1 H2 : Hp} (a : Same H H1) (b : Same H1 H2) : Same H H2 := fun c o h => b c o (a c o h)
theorem Same.free {H H' : Hp} (e : Same H H') {l : Addr} (h : H' l = Option.none) : H l = Option.none := by
 cases q : H l with
 | none => rfl
 | some o =>
  rw [e l o q] at h
  cases h
theorem Same.seq {K : PySem.W.Frag} {H H' : Hp} {a : Addr} {xs : List V} (e : Same H H') (h : SqL K H a xs) : SqL K H' a xs := by
 rcases h with (h | ⟨o, h⟩) | h
 ·exact .inl (.inl (e _ _ h))
 ·exact .inl (.inr ⟨o, e _ _ h⟩)
 ·exact .inr h
end L2
set_option maxHeartbeats 4000000
namespace L2
open PySem PySem.Spec PyProof.Rows PySem.Builtin PySem.Builtin.Str
noncomputable def T (l : List Nat) : Str := ⟨l.toArray⟩
theorem zhk (l : List Nat) : (T l).cps.toList = l := by simp [T]
theorem zo0 {a b : List Nat} : T a = T b ↔ a = b := by
 constructor
 ·intro h
  have := congrArg (fun x : Str => x.cps.toList) h
  simpa [T] using this
 ·rintro rfl; rfl
theorem zgi (l : List Nat) : (T l).length = l.length := by simp [T, Str.length]
theorem zst (a b : List Nat) : T a ++ T b = T (a ++ b) := by
 show Str.append (T a) (T b) = _
 simp [Str.append, T]
theorem zkw (a b : List Nat) : decide ((V.str (T a)) = V.str (T b)) = decide (a = b) := by
 by_cases h : a = b
 ·subst h; simp
 ·rw [decide_eq_false h, decide_eq_false]
  intro q; injection q with q; exact h (zo0.mp q)
noncomputable def cutL (xs : List Nat) (lo hi : Option Int) : List Nat := (xs.drop (HT.sIx xs.length 0 lo)).take (HT.sIx xs.length xs.length hi - HT.sIx xs.length 0 lo)
theorem ze5 (lo hi : Option Int) (n : Nat) : strSliceIndices lo hi 1 n = (List.range (HT.sIx n n hi - HT.sIx n 0 lo)).map (HT.sIx n 0 lo + ·) := by
 have h1 : (1 : Int) > 0 := by decide
 have a : ∀ (v : Int) (d : Nat), max 0 (min (if v < 0 then v + (n : Int) else v) (n : Int)) = ((HT.sIx n d (some v) : Nat) : Int) := by
  intro v d
  show _ = (((if v < 0 then (v + (n : Int)).toNat else min v.toNat n) : Nat) : Int)
  by_cases hv : v < 0
  ·simp only [if_pos hv]; lia
  ·simp only [if_neg hv]; lia
 have key : ∀ (p q : Nat), sliceRange (p : Int) (q : Int) 1 = (List.range (q - p)).map (p + ·) := by
  intro p q
  unfold sliceRange
  simp only [h1, if_true]
  have e : (if (p : Int) < (q : Int) then ((q : Int) - p + 1 - 1) / 1 else 0).toNat = q - p := by
   split <;> lia
  rw [e]
  refine List.map_congr_left fun k _ => ?_
  lia
 unfold strSliceIndices
 simp only [h1, if_true]
 cases lo with
 | none =>
  cases hi with
  | none => exact key 0 n
  | some v => dsimp only; rw [a v n]; exact key 0 _
 | some u =>
  cases hi with
  | none => dsimp only; rw [a u 0]; exact key _ n
  | some v => dsimp only; rw [a u 0, a v n]; exact key _ _
theorem zop (n : Nat) (o : Option Int) : HT.sIx n n o <= n := HT.sIx_le n n (Nat.le_refl _) o
theorem zmk (x : List Nat) (lo hi : Option Int) : Txt.slice (T x) lo hi = T (cutL x lo hi) := by
 have hlen : (T x).length = x.length := zgi x
 have hle := zop x.length hi
 have e : (strSliceIndices lo hi 1 (T x).length).filterMap ((T x).cps[·]?) = cutL x lo hi := by
  rw [ze5, hlen]
  unfold cutL
  generalize hp : HT.sIx x.length 0 lo = p
  generalize HT.sIx x.length x.length hi = q at hle ⊢
  by_cases hpq : p <= q
  ·have := StrLaws.picks x (q - p) p (by lia)
   rw [<- this]
   simp [T]
  ·have : q - p = 0 := by lia
   rw [this]; simp
 unfold Txt.slice
 split
 ·rename_i h
  have h2 : (strSliceIndices lo hi 1 (T x).length).length = (T x).length := by
   simp only [Bool.and_eq_true, beq_iff_eq] at h; exact h.2
  rw [ze5, hlen, List.length_map, List.length_range] at h2
  have h3 : HT.sIx x.length 0 lo <= x.length := HT.sIx_le _ 0 (Nat.zero_le _) lo
  unfold cutL
  by_cases hx : x.length = 0
  ·have : x = [] := List.eq_nil_of_length_eq_zero hx
   subst this; simp
  ·have e1 : HT.sIx x.length 0 lo = 0 := by lia
   have e2 : HT.sIx x.length x.length hi = x.length := by lia
   rw [e1, e2]; simp
 ·rw [e]; rfl
section
variable {X : Cx}
theorem zh5 : ∀ {ys : List Str} {us : List Value}, Vals (ys.map V.str) us -> StrsAre us ys
 | [], _, h => by cases h; exact .nil
 | y :: r, _, h => by
  cases h with
  | cons a b =>
   obtain ⟨t, rfl⟩ := a
   exact .cons y t (zh5 b)
noncomputable def zsz (K : PySem.W.Frag) : V -> List V -> Hp -> VK -> Prop := fun x vs H Q => ∃ z p ys, x = .str z /\ vs = [.ref p] /\ SqL K H p (ys.map V.str) /\ (ys.map (·.length)).sum + ys.length * z.length <= 16777216 /\ Q (.str (Str.join z ys)) H
theorem zm3 : MtR X "str.join" (zsz X.K) := by
 intro pins s σ H x xs v us Q I rx rs h
 obtain ⟨z, p, ys, rfl, rfl, hl, hz, q⟩ := h
 obtain ⟨t, rfl⟩ := rx
 obtain ⟨u, rfl, ru⟩ := Vals.one rs
 cases ru
 obtain ⟨its, r, pl, _⟩ := I.list hl
 refine join_list pl.isList (ys:=ys) (by simpa using zh5 r) hz fun t' k => ⟨.str _, H, I.tok _, ⟨_, by show _ = Value.str (Str.join z ys) t'; rw [<- StrLaws.glued_eq_join]; rfl⟩, q⟩
noncomputable def rSlS : V -> Option Int -> Option Int -> Hp -> VK -> Prop := fun x lo hi H Q => ∃ l, x = .str (T l) /\ l.length <= sizeLine /\ Q (.str (T (cutL l lo hi))) H
theorem zq2 : SlR X rSlS := by
 intro pins s σ H x v vl vu lo hi sl Q I rx hs pl pu h
 obtain ⟨l, rfl, hz, q⟩ := h
 obtain ⟨t, rfl⟩ := rx
 refine ⟨"str", _, F.slot_str_getitem.lookup, typeIs_str _ _ _, ?_⟩
 have hz' : (T l).length <= sizeLine := by rw [zgi]; exact hz
 have fin : (Txt.slice (T l) lo hi).length <= sizeLine /\ ∀ t' k, EP X pins σ Q (.str (Txt.slice (T l) lo hi) t') { s with toks := k } :=
  ⟨Nat.le_trans (Txt.slice_le _ _ _) hz', fun t' k => ⟨.str _, H, I.tok _, ⟨_, by rw [zmk]⟩, q⟩⟩
 obtain ⟨o, ho, hc, hd⟩ := hs
 cases pl with
 | none =>
  cases pu with
  | none => exact wpAny_getItem_str_slice (l:=none) (u:=none) (st:=none) ⟨o, ho, hc, hd⟩ rfl (post_val_or_str fin)
  | int j uj => exact wpAny_getItem_str_slice (l:=none) (u:=some (j, uj)) (st:=none) ⟨o, ho, hc, hd⟩ rfl (post_val_or_str fin)
 | int i ui =>
  cases pu with
  | none => exact wpAny_getItem_str_slice (l:=some (i, ui)) (u:=none) (st:=none) ⟨o, ho, hc, hd⟩ rfl (post_val_or_str fin)
  | int j uj => exact wpAny_getItem_str_slice (l:=some (i, ui)) (u:=some (j, uj)) (st:=none) ⟨o, ho, hc, hd⟩ rfl (post_val_or_str fin)
end
end L2
namespace L2
open PySem PySem.Spec PyProof.Rows
noncomputable def clos (cells : List (Str × Addr)) : List (Str × NameKind) -> List (Str × Addr) -> List (Str × Addr)
 | [], acc => acc
 | (n, k) :: r, acc => if k == .free then (match cells.lookup n with | some c => clos cells r ((n, c) :: acc) | none => clos cells r acc) else clos cells r acc
theorem zfk {cells : List (Str × Addr)} : ∀ (names : List (Str × NameKind)) (acc : List (Str × Addr)), (∀ x c, acc.lookup x = some c -> cells.lookup x = some c) -> ∀ x c, (clos cells names acc).lookup x = some c -> cells.lookup x = some c
 | [], _, h => h
 | (n, k) :: r, acc, h => by
  intro x c
  unfold clos
  split
  ·cases e : cells.lookup n with
   | none => exact zfk r acc h x c
   | some d =>
    refine zfk r _ (fun y z hy => ?_) x c
    rw [List.lookup_cons] at hy
    cases q : y == n with
    | true =>
     rw [q] at hy
     have : y = n := by simpa using q
     subst this
     simpa [e] using hy
    | false => rw [q] at hy; exact h y z hy
  ·exact zfk r acc h x c
theorem zfp {cells : List (Str × Addr)} : ∀ (names : List (Str × NameKind)) (acc : List (Str × Addr)) (x : Str), (acc.lookup x).isSome = true -> ((clos cells names acc).lookup x).isSome = true
 | [], _, _, h => h
 | (n, k) :: r, acc, x, h => by
  unfold clos
  split
  ·cases e : cells.lookup n with
   | none => exact zfp r acc x h
   | some d =>
    refine zfp r _ x ?_
    rw [List.lookup_cons]
    cases q : x == n with
    | true => rfl
    | false => exact h
  ·exact zfp r acc x h
theorem zfr {cells : List (Str × Addr)} : ∀ (names : List (Str × NameKind)) (acc : List (Str × Addr)) (x : Str), (x, NameKind.free) ∈ names -> (cells.lookup x).isSome = true -> ((clos cells names acc).lookup x).isSome = true
 | (n, k) :: r, acc, x, hm, hs => by
  unfold clos
  rcases List.mem_cons.mp hm with e | hm
  ·cases e
   simp only [beq_self_eq_true, if_true]
   obtain ⟨c, hc⟩ := Option.isSome_iff_exists.mp hs
   rw [hc]
   refine zfp r _ _ ?_
   simp [List.lookup_cons]
  ·split
   ·cases e : cells.lookup n with
    | none => exact zfr r acc x hm hs
    | some d => exact zfr r _ x hm hs
   ·exact zfr r acc x hm hs
theorem zmb {scope : Scope} {env : Env} (h : ∀ x, (x, NameKind.free) ∈ scope.names -> (env.cells.lookup x).isSome = true) : closureFor scope env = pure (clos env.cells scope.names []) := by
 have gen : ∀ (names : List (Str × NameKind)) (acc : List (Str × Addr)), (∀ x, (x, NameKind.free) ∈ names -> (env.cells.lookup x).isSome = true) ->
   (forIn names acc (fun (p : Str × NameKind) (r : List (Str × Addr)) => (if p.2 == NameKind.free then (do let c <- cellOf env p.1; pure (ForInStep.yield ((p.1, c) :: r))) else pure (ForInStep.yield r) : Sem (ForInStep (List (Str × Addr)))))) = pure (clos env.cells names acc) := by
  intro names
  induction names with
  | nil => intro acc _; rfl
  | cons p r ih =>
   obtain ⟨n, k⟩ := p
   intro acc hh
   rw [List.forIn_cons]
   unfold clos
   cases hk : k == NameKind.free with
   | false =>
    simp only [hk, Bool.false_eq_true, if_false]
    exact ih acc fun x hx => hh x (List.mem_cons_of_mem _ hx)
   | true =>
    have hk' : k = .free := by simpa using hk
    subst hk'
    obtain ⟨c, hc⟩ := Option.isSome_iff_exists.mp (hh n List.mem_cons_self)
    have e : cellOf env n = pure c := by unfold cellOf; rw [hc]
    simp only [beq_self_eq_true, if_true, e, hc]
    exact ih _ fun x hx => hh x (List.mem_cons_of_mem _ hx)
 exact (congrArg (fun (m : Sem (List (Str × Addr))) => m >>= fun cs => pure cs) (gen scope.names [] h)).trans rfl
noncomputable def lcS (nt : Nat) (cs : List Nat) (σ : St) : St := List.replicate nt none ++ cs.map fun i => (σ[i]?).getD none
noncomputable def lcCx (X : Cx) (N' : List Str) (scope : Scope) (s : Shared) (H : Hp) (C : Addr) (fp : List Addr) : Cx :=
 { X with N := N', s₀ := s, H₀ := H, env := compEnvC scope (clos X.env.cells scope.names []) C X.env, outer := X.stack, stack := X.stack, ex := fp, fn := fun _ => false, pn := [], xe := fun _ _ => False }
noncomputable def lcOk (Nx : List Str) (sc scope : Scope) (N' : List Str) (nt : Nat) (cs : List Nat) : Bool :=
 decide (scope.kind = .function) && (scope.names.all fun p => match p.2 with
  | .cell => false
  | .local => decide (scope.names.lookup p.1 = some .local)
  | .free => decide (sc.names.lookup p.1 = some .cell) || decide (sc.names.lookup p.1 = some .free)
  | _ => true) && decide (N'.length = nt + cs.length) && (((N'.drop nt).zip cs).all fun p => decide (Nx[p.2]? = some p.1) && decide (scope.names.lookup p.1 = some .free) && (decide (sc.names.lookup p.1 = some .cell) || decide (sc.names.lookup p.1 = some .free)))
structure LcOk (X : Cx) (scope : Scope) (N' : List Str) (nt : Nat) (cs : List Nat) : Prop where
 kind : scope.kind = .function
 nocell : ∀ y ∈ scope.names, y.2 ≠ .cell
 loc : ∀ y ∈ scope.names, y.2 = .local -> scope.names.lookup y.1 = some .local
 fr : ∀ x, (x, NameKind.free) ∈ scope.names -> X.env.kindOf x = some .cell \/ X.env.kindOf x = some .free
 len : N'.length = nt + cs.length
 cap : ∀ j i, cs[j]? = some i -> ∃ x, N'[nt + j]? = some x /\ X.N[i]? = some x /\ scope.names.lookup x = some .free /\ Vis X.env.scope x /\ X.env.kindOf x ≠ some .local
theorem LcOk.of {X : Cx} {scope : Scope} {N' : List Str} {nt : Nat} {cs : List Nat} {Nx : List Str} {sc : Scope} (hN : X.N = Nx) (hs : X.env.scope = sc) (h : lcOk Nx sc scope N' nt cs = true) : LcOk X scope N' nt cs := by
 subst hN hs
 unfold lcOk at h
 simp only [Bool.and_eq_true, decide_eq_true_eq, List.all_eq_true] at h
 obtain ⟨⟨⟨h1, h2⟩, h3⟩, h4⟩ := h
 refine ⟨h1, fun y hy e => ?_, fun y hy e => ?_, fun x hx => ?_, h3, fun j i e => ?_⟩
 ·have := h2 y hy; rw [e] at this; exact Bool.false_ne_true this
 ·have := h2 y hy; rw [e] at this; exact of_decide_eq_true this
 ·have := h2 _ hx
  simp only [Bool.or_eq_true, decide_eq_true_eq] at this
  exact this
 ·have hj : j < cs.length := (List.getElem?_eq_some_iff.mp e).1
  have hd : (N'.drop nt).length = cs.length := by rw [List.length_drop, h3]; lia
  have hx : (N'.drop nt)[j]? = some ((N'.drop nt)[j]'(by lia)) := by simp [hd, hj]
  generalize (N'.drop nt)[j]'(by lia) = x at hx
  have hz : (x, i) ∈ (N'.drop nt).zip cs := by
   refine List.mem_of_getElem? (i:=j) ?_
   rw [List.getElem?_zip_eq_some]
   exact ⟨hx, e⟩
  have q := h4 _ hz
  simp only [Bool.and_eq_true, Bool.or_eq_true, decide_eq_true_eq] at q
  refine ⟨x, by rw [List.getElem?_drop] at hx; exact hx, q.1.1, q.1.2, ?_, fun z => ?_⟩
  ·exact q.2.elim (fun z => .inr (.inl z)) fun z => .inr (.inr z)
  ·have z' : X.env.scope.names.lookup x = some .local := z
   rcases q.2 with y | y <;> · rw [z'] at y; cases y
theorem ze3 {env : Env} : ∀ {names : List (Str × NameKind)} {x : Str}, names.lookup x = some .free ->
  (names.map fun (n, k) => if (k == NameKind.free && env.scope.kind == .function && env.kindOf n == some .cell) then (n, NameKind.cell) else (n, k)).lookup x = some .cell \/
  (names.map fun (n, k) => if (k == NameKind.free && env.scope.kind == .function && env.kindOf n == some .cell) then (n, NameKind.cell) else (n, k)).lookup x = some .free
 | [], _, h => by simp at h
 | (n, k) :: r, x, h => by
  have ih := @ze3 env r x
  show List.lookup x ((if (k == NameKind.free && env.scope.kind == .function && env.kindOf n == some .cell) = true then (n, NameKind.cell) else (n, k)) :: _) = _ \/ List.lookup x ((if (k == NameKind.free && env.scope.kind == .function && env.kindOf n == some .cell) = true then (n, NameKind.cell) else (n, k)) :: _) = _
  cases hx : x == n with
  | true =>
   simp only [List.lookup_cons, hx] at h
   cases h
   by_cases hc : (NameKind.free == NameKind.free && env.scope.kind == .function && env.kindOf n == some .cell) = true
   ·rw [if_pos hc]; left; simp only [List.lookup_cons, hx]
   ·rw [if_neg hc]; right; simp only [List.lookup_cons, hx]
  | false =>
   simp only [List.lookup_cons, hx] at h
   by_cases hc : (k == NameKind.free && env.scope.kind == .function && env.kindOf n == some .cell) = true
   ·rw [if_pos hc]; simp only [List.lookup_cons, hx]; exact ih h
   ·rw [if_neg hc]; simp only [List.lookup_cons, hx]; exact ih h
theorem zdf {env : Env} : ∀ {names : List (Str × NameKind)} {x : Str} {q : NameKind}, (∀ y ∈ names, y.2 ≠ .cell) -> (q = .cell \/ q = .free) ->
  (names.map fun (n, k) => if (k == NameKind.free && env.scope.kind == .function && env.kindOf n == some .cell) then (n, NameKind.cell) else (n, k)).lookup x = some q -> (x, NameKind.free) ∈ names
 | [], _, _, _, _, h => by simp at h
 | (n, k) :: r, x, q, hn, hq, h => by
  have ih := @zdf env r x q (fun y hy => hn y (List.mem_cons_of_mem _ hy)) hq
  have h' : List.lookup x ((if (k == NameKind.free && env.scope.kind == .function && env.kindOf n == some .cell) = true then (n, NameKind.cell) else (n, k)) :: (r.map fun (n, k) => if (k == NameKind.free && env.scope.kind == .function && env.kindOf n == some .cell) then (n, NameKind.cell) else (n, k))) = some q := h
  cases hx : x == n with
  | true =>
   have e : x = n := by simpa using hx
   subst e
   by_cases hc : (k == NameKind.free && env.scope.kind == .function && env.kindOf x == some .cell) = true
   ·simp only [Bool.and_eq_true, beq_iff_eq] at hc
    rw [hc.1.1]; exact List.mem_cons_self
   ·rw [if_neg hc] at h'
    simp only [List.lookup_cons, beq_self_eq_true] at h'
    cases h'
    rcases hq with rfl | rfl
    ·exact absurd rfl (hn (x, .cell) List.mem_cons_self)
    ·exact List.mem_cons_self
  | false =>
   refine List.mem_cons_of_mem _ (ih ?_)
   by_cases hc : (k == NameKind.free && env.scope.kind == .function && env.kindOf n == some .cell) = true
   ·rw [if_pos hc] at h'; simp only [List.lookup_cons, hx] at h'; exact h'
   ·rw [if_neg hc] at h'; simp only [List.lookup_cons, hx] at h'; exact h'
section
variable {X : Cx} {pins : List (Addr × Obj)} {σ : St} {H : Hp} {s s' : Shared} {scope : Scope} {N' : List Str} {nt : Nat} {cs : List Nat} {C : Addr} {fp : List Addr} {h' : Heap} {t' : Nat}
theorem zpj (I : Inv X pins σ H s) (L : LcOk X scope N' nt cs) (hf : ∀ b ∈ fp, FpOk X pins H b) (hC : s.heap.objs.size <= C) (k : ∀ b u, s.heap.get? b = some u -> h'.get? b = some u) (hns : h'.Ns C fun _ => none) (fpo : ∀ b ∈ fp, b < s.heap.objs.size) :
  Inv (lcCx X N' scope s H C fp) [] (lcS nt cs σ) H { s with heap := h', toks := t' } := by
 have hfree : H C = none := I.hok.fresh hC
 have csub : ∀ x c, (clos X.env.cells scope.names []).lookup x = some c -> X.env.cells.lookup x = some c := zfk _ _ fun x c h => by simp at h
 have chas : ∀ x, (x, NameKind.free) ∈ scope.names -> ((clos X.env.cells scope.names []).lookup x).isSome = true := fun x hx => by
  refine zfr _ _ x hx ?_
  obtain ⟨c, e⟩ := I.ok.has x (L.fr x hx)
  rw [e]; rfl
 have I4 : Inv X pins σ H { s with heap := h', toks := t' } := I.kept k
 refine ⟨⟨I.ok.mod, L.kind, I.ok.glob, I.ok.blt, hC, fun x y c h1 h2 => I.ok.inj x y c (csub x c h1) (csub y c h2), fun x hx => ?_, fun x c hx => (nomatch hx), I.ok.hd, I.ok.frames, .inl rfl, fun b hb => ⟨?_, fun x c e => ?_⟩, I.bs, Nat.le_trans I.ok.bsz I.sz, fun b o e hb => ?_, fun b hb => ?_, I.stack, I.stkFree⟩,
  rfl, I.bare, Un.kept k, ⟨_, hns, fun i x v e1 e2 e3 => ?_⟩, fun x c e => ?_, hfree, fun x c e => I.freeC x c (csub x c e), fun p hp => absurd (show p ∈ ([] : List (Addr × Obj)) from hp) (by simp), I4.hok, ?_⟩
 ·have hx' : (x, NameKind.free) ∈ scope.names := by
   rcases hx with hx | hx
   ·exact zdf (env:=X.env) L.nocell (.inl rfl) hx
   ·exact zdf (env:=X.env) L.nocell (.inr rfl) hx
  exact Option.isSome_iff_exists.mp (chas x hx')
 ·exact Nat.ne_of_lt (Nat.lt_of_lt_of_le (fpo b hb) hC)
 ·exact (hf b hb).2.2.2.2.1 x c (csub x c e)
 ·obtain ⟨f0, f1, f2, f3, _⟩ := hf b hb
  rcases f3 with z | z
  ·exact I.ok.noex b o e z
  ·exact absurd (Nat.lt_of_lt_of_le (Heap.lt_size e) (Nat.le_trans I.ok.bsz z)) (Nat.lt_irrefl _)
 ·obtain ⟨f0, f1, f2, f3, _⟩ := hf b hb
  intro z
  rcases List.mem_cons.mp (I.stkSub b z) with q | q
  ·exact f1 q
  ·exact f2 q
 ·-- a captured name
  have e2' : (lcS nt cs σ)[i]? = some (some v) := e2
  unfold lcS at e2'
  by_cases hi : i < nt
  ·rw [List.getElem?_append_left (by simpa using hi), List.getElem?_replicate] at e2'
   split at e2' <;> cases e2'
  ·rw [List.getElem?_append_right (by simpa using hi), List.length_replicate, List.getElem?_map] at e2'
   cases ej : cs[i - nt]? with
   | none => rw [ej] at e2'; cases e2'
   | some j =>
    rw [ej] at e2'
    have e2'' : (σ[j]?).getD none = some v := Option.some.inj e2'
    have hσ : σ[j]? = some (some v) := by
     cases q : σ[j]? with
     | none => rw [q] at e2''; cases e2''
     | some z => rw [q] at e2''; exact congrArg some e2''
    obtain ⟨y, y1, y2, y3, y4, y5⟩ := L.cap _ _ ej
    have hxy : x = y := by
     have e1' : N'[i]? = some x := e1
     rw [show nt + (i - nt) = i by lia, e1'] at y1
     exact Option.some.inj y1
    subst hxy
    obtain ⟨m, hn, hl⟩ := I4.loc
    obtain ⟨u, r, l⟩ := hl j x v y2 hσ y4
    refine ⟨u, r, .inr ⟨ze3 (env:=X.env) y3, ?_⟩⟩
    rcases l with ⟨l, _⟩ | ⟨_, c, hc, hcell⟩
    ·exact absurd l y5
    ·refine ⟨c, ?_, hcell⟩
     obtain ⟨d, hd⟩ := Option.isSome_iff_exists.mp (chas x (PySem.mem_of_lookup y3))
     have := csub x d hd
     rw [hc] at this
     cases this
     exact hd
 ·exact I4.cell x c (csub x c e)
 ·show (lcS nt cs σ).length = N'.length
  unfold lcS
  rw [L.len]; simp
theorem zqg {σ2 : St} {H2 : Hp} (I : Inv X pins σ H s) (hf : ∀ b ∈ fp, FpOk X pins H b) (J : Inv (lcCx X N' scope s H C fp) [] σ2 H2 s') : Inv X pins σ H2 s' :=
 I.call' (ch:=fp) J.os J.base J.hok J.bare fun b hb => by
  obtain ⟨f0, f1, f2, f3, f4, f5⟩ := hf b hb
  exact ⟨f3, f1, f4, f5⟩
end
noncomputable def PIfs (X : Cx) (ifs : List Expr) (t : TT) : Prop :=
 ∀ (pins : List (Addr × Obj)) (s : Shared) (σ : St) (H : Hp) (Q : Bool -> Hp -> Prop), Inv X pins σ H s -> t σ H Q ->
  wpAny (model X.prog X.w) X.A (forIn ifs true fun c r => if r = true then do let ok <- isTrue c X.env (eval c X.env); pure (ForInStep.yield ok) else pure (ForInStep.yield r)) (TP X pins σ Q) X.xe s
noncomputable def zp9 : TT := fun _ H Q => Q true H
theorem zfn {X : Cx} : PIfs X [] zp9 := fun _ _ _ H _ I h => wpAny_tests_nil ⟨H, I, h⟩
theorem zel {X : Cx} {c : Expr} {t : TT} (h : PT X c t) : PIfs X [c] t := fun pins s σ H Q I hq => wpAny_tests_one (h pins s σ H Q I hq)
noncomputable def LCG (nt : Nat) (cs : List Nat) (g : TG) (tt : TT) (te : TE) (σ : St) (Q : VK) (J : It) (H1 : Hp) : Prop := ∀ l, H1 l = none -> ∃ W : Nat -> Nat -> Hp -> Prop, (∃ m, W 0 m (upd H1 l (.lst []))) /\ ∀ i m H2, W i m H2 ->
 (J.stop i H2 /\ Q (.ref l) H2) \/ (J.go i H2 /\ ∃ N : Hp -> Prop, (∀ H', N H' -> ∃ m', m' < m /\ W (i + 1) m' H') /\ ∀ x H3, J.yld i H2 x H3 -> g x (lcS nt cs σ) H3 fun σ2 H4 =>
  (σ2.length = nt + cs.length /\ σ2.drop nt = (lcS nt cs σ).drop nt) /\ tt σ2 H4 fun b H5 => if b = true then te σ2 H5 fun y H6 => ∃ xs, H6 l = some (.lst xs) /\ xs.length < sizeLine /\ N (upd H6 l (.lst (xs ++ [y]))) else N H5)
noncomputable def tLC (nt : Nat) (cs : List Nat) (wi : TI) (g : TG) (tt : TT) (te : TE) : TE := fun σ H Q => wi σ H fun J H1 => LCG nt cs g tt te σ Q J H1
theorem zse {prog : Program} {w : World} {A : Around} {R : Result -> Shared -> Prop} {s : Shared} {elt target iter : Expr} {ifs : List Expr} {scope : Scope} {pos : Pos} {it acc : Value} {env : Env} (I : Nat -> Shared -> Prop)
  (turn : ∀ n s, I n s -> wpAny (model prog w) A (pyNext it) (fun r s₁ => match r with
   | none => R (.ok .next) s₁
   | some v => wpAny (model prog w) A (letOwnedTupleGo target it v) (fun _ s₁' => wpAny (model prog w) A (assign target env v) (fun _ s₂ =>
     wpAny (model prog w) A (forIn ifs true fun c r => if r = true then do let ok <- isTrue c env (eval c env); pure (ForInStep.yield ok) else pure (ForInStep.yield r)) (fun ok s₃ =>
      if ok = true then wpAny (model prog w) A (eval elt env) (fun x s₄ =>
       wpAny (model prog w) A (call (.builtin "list.append") [acc, x]) (fun _ s₅ => ∃ m, m < n /\ I m s₅) (fun _ _ => False) s₄) (fun _ _ => False) s₃
      else ∃ m, m < n /\ I m s₃) (fun _ _ => False) s₂) (fun _ _ => False) s₁') (fun _ _ => False) s₁) (fun _ _ => False) s)
  (n : Nat) (h : I n s) : codeAny (model prog w) A (.compLoop (.ListComp elt [⟨target, iter, ifs, 0⟩] scope pos) 0 it acc env) R s := by
 refine codeAny_loop rfl I (fun n s hI => ?_) n h
 show wpAny _ A ((compTurn (.ListComp elt [⟨target, iter, ifs, 0⟩] scope pos) 0 it acc env).onRaise (fun x => do noteFrame x env; theTreesLotGoes x)) _ _ s
 refine wpAny_noted ?_
 rw [compTurn_list]
 refine wpAny_bind (wpAny_standAt (wpAny_bind (wpAny_mono (turn n s hI) (fun r s₁ h₁ => ?_) fun _ _ h' => h'.elim)))
 cases r with
 | none => exact wpAny_pure h₁
 | some v =>
  refine wpAny_bind (wpAny_mono h₁ (fun _ s₁' h₁' => ?_) fun _ _ h' => h'.elim)
  refine wpAny_bind (wpAny_mono h₁' (fun _ s₂ h₂ => wpAny_bind (wpAny_mono h₂ (fun ok s₃ h₃ => ?_) fun _ _ h' => h'.elim)) fun _ _ h' => h'.elim)
  cases ok with
  | false => exact wpAny_pure ⟨rfl, h₃⟩
  | true =>
   exact wpAny_bind (wpAny_bind (wpAny_mono h₃ (fun x s₄ h₄ => wpAny_bind (wpAny_mono h₄ (fun _ s₅ h₅ => wpAny_pure (wpAny_pure ⟨rfl, h₅⟩)) fun _ _ h' => h'.elim)) fun _ _ h' => h'.elim))
section
variable {X : Cx} {elt target iter : Expr} {ifs : List Expr} {scope : Scope} {pos : Pos} {N' : List Str} {nt : Nat} {cs : List Nat} {wi : TI} {g : TG} {tt : TT} {te : TE}
theorem zo6 {use : Option (Value -> Sem Unit)} {QQ : Value -> Shared -> Prop} {p2 : Pos} (hc : X.calm = true) (L : LcOk X scope N' nt cs) (hi : PI X target iter wi)
  (hg : ∀ s H C fp, PG (lcCx X N' scope s H C fp) target g) (ht : ∀ s H C fp, PIfs (lcCx X N' scope s H C fp) ifs tt) (he : ∀ s H C fp, PE (lcCx X N' scope s H C fp) elt te)
  {pins : List (Addr × Obj)} {s : Shared} {σ : St} {H : Hp} {Q : VK} (I : Inv X pins σ H s) (h : tLC nt cs wi g tt te σ H Q)
  (fin : ∀ (l : Addr) (H' : Hp) (s' : Shared) (C : Addr), Inv X pins σ H' s' -> FpOk X pins H' C -> (∃ m, s'.heap.Ns C m) -> Q (.ref l) H' -> compPost (model X.prog X.w) X.A X.xe use QQ (.ref l) C (.ok .next) s')
  (hs : ∀ x, foldedSetIterable iter X.env x = pure x := by intro _; rfl) :
  wpAny (model X.prog X.w) X.A (comprehension (.ListComp elt [⟨target, iter, ifs, 0⟩] scope pos) scope X.env p2 (newList []) false (eval iter X.env) use) QQ X.xe s := by
 have hcl : closureFor scope X.env = pure (clos X.env.cells scope.names []) := zmb fun x hx => by
  obtain ⟨c, e⟩ := I.ok.has x (L.fr x hx)
  rw [e]; rfl
 refine wpAny_comprehension_free (env:=X.env) rfl hs hcl L.kind L.loc (thn (hi pins s σ H _ I h) fun v s1 h1 => thn h1 fun itv s2 h2 => ?_)
 obtain ⟨it, fp, tn, J, H1, e, I2, T, st2, f2, R⟩ := h2
 subst e
 refine wpAny_newObj_type ?_
 have hv : Vals [] ([] : List Value) := .nil
 have I3 := I2.lnew (t':=s2.toks) hv (Nat.zero_le _)
 have hfr : H1 s2.heap.objs.size = none := I2.fresh
 have ne3 : ∀ b ∈ fp, b ≠ s2.heap.objs.size := fun b hb z => by
  obtain ⟨o, e, _⟩ := T.obj _ _ st2 b hb
  have := Heap.lt_size e
  rw [z] at this
  exact Nat.lt_irrefl _ this
 have f3 : ∀ b ∈ fp, FpOk X pins (upd H1 s2.heap.objs.size (.lst [])) b := fun b hb => ⟨by rw [zaj (ne3 b hb)]; exact (f2 b hb).1, (f2 b hb).2⟩
 obtain ⟨W, ⟨m0, w0⟩, turn⟩ := R _ hfr
 refine wpAny_newFunctionEnv L.nocell (by intro y hy; simp at hy) (fun h4 hns hsb => ?_) L.kind
 dsimp only at hns hsb ⊢
 generalize hH3 : s2.heap.push { cls := .type "list", dict := none, data := .seq ([] : List Value).toArray } = h3 at hns hsb I3 ⊢
 have hsz3 : h3.objs.size = s2.heap.objs.size + 1 := by rw [<- hH3, Heap.size_push]
 have up4 : ∀ b u, h3.get? b = some u -> h4.get? b = some u := fun b u e => hsb.extBut b u (Nat.ne_of_lt (Heap.lt_size e)) (Heap.get?_push_of_some _ e)
 have fpo : ∀ b ∈ fp, b < h3.objs.size := fun b hb => by
  obtain ⟨o, e, _⟩ := T.obj _ _ st2 b hb
  exact Nat.lt_of_lt_of_le (Heap.lt_size e) (by rw [hsz3]; exact Nat.le_succ _)
 have up3 : ∀ b u, s2.heap.get? b = some u -> h3.get? b = some u := fun b u e => hH3 ▸ Heap.get?_push_of_some _ e
 have J4 : Inv (lcCx X N' scope { s2 with heap := h3 } (upd H1 s2.heap.objs.size (.lst [])) h3.objs.size fp) [] (lcS nt cs σ) (upd H1 s2.heap.objs.size (.lst [])) { s2 with heap := h4, toks := s2.toks + ([] : List (Str × Value)).length } :=
  zpj (t':=s2.toks + ([] : List (Str × Value)).length) I3 L f3 (Nat.le_refl _) up4 (by simpa using hns) fpo
 have st4 : tn 0 h4 := T.keep _ _ _ st2 fun b hb o e => up4 b o (up3 b o e)
 generalize hs3 : ({ s2 with heap := h3 } : Shared) = s3 at I3 J4
 generalize hX' : lcCx X N' scope s3 (upd H1 s2.heap.objs.size (.lst [])) h3.objs.size fp = X' at J4
 have hg' : PG X' target g := hX' ▸ hg _ _ _ _
 have ht' : PIfs X' ifs tt := hX' ▸ ht _ _ _ _
 have he' : PE X' elt te := hX' ▸ he _ _ _ _
 have stat : ∀ {H' : Hp}, (∀ b ∈ fp, H' b = none) -> ∀ b ∈ fp, FpOk X' [] H' b := fun hn b hb => by
  subst hX'
  refine ⟨hn b hb, Nat.ne_of_lt (fpo b hb), J4.ok.exfs b hb, .inl hb, (J4.ok.exf b hb).2, fun p hp => absurd (show p ∈ ([] : List (Addr × Obj)) from hp) (by simp)⟩
 have loop : codeAny (model X.prog X.w) X.A (.compLoop (.ListComp elt [⟨target, iter, ifs, 0⟩] scope pos) 0 (.ref it) (.ref s2.heap.objs.size) (compEnvC scope (clos X.env.cells scope.names []) h3.objs.size X.env))
   (compPost (model X.prog X.w) X.A X.xe use QQ (.ref s2.heap.objs.size) h3.objs.size) { s2 with heap := h4, toks := s2.toks + ([] : List (Str × Value)).length } := by
  have eA : X'.A = X.A := by subst hX'; rfl
  have eP : X'.prog = X.prog := by subst hX'; rfl
  have eW : X'.w = X.w := by subst hX'; rfl
  have eK : X'.K = X.K := by subst hX'; rfl
  have eC : X'.calm = true := by subst hX'; exact hc
  have eE : X'.env = compEnvC scope (clos X.env.cells scope.names []) h3.objs.size X.env := by subst hX'; rfl
  have eX : X'.xe = fun _ _ => False := by subst hX'; rfl
  refine zse (fun n s' => ∃ i H', Inv X' [] (lcS nt cs σ) H' s' /\ tn i s'.heap /\ (∀ b ∈ fp, H' b = none) /\ W i n H') ?_ m0 ⟨0, _, J4, st4, fun b hb => (f3 b hb).1, w0⟩
  rintro n s5 ⟨i, H5, J5, st5, fr5, w5⟩
  rcases turn i n H5 w5 with ⟨stop, qn⟩ | ⟨go, N, hN, step⟩
  ·have d := T.done X' eP eW eK eC i [] s5 (lcS nt cs σ) H5 (fun _ _ => False) J5 (stat fr5) st5 stop
   rw [eA] at d
   refine thn d fun r s6 hz9 => ?_
   obtain ⟨hr, J6⟩ := hz9
   subst hr
   have I6 : Inv X pins σ H5 s6 := by subst hX'; subst hs3; exact zqg I3 f3 J6
   refine fin _ H5 s6 h3.objs.size I6 ?_ ?_ qn
   ·have hn : H5 h3.objs.size = none := by subst hX'; exact J6.free
    subst hs3
    exact I3.fpOk (Nat.le_refl _) hn
   ·obtain ⟨m, hm, _⟩ := J6.loc
    subst hX'
    exact ⟨m, hm⟩
  ·have d := T.item X' eP eW eK eC i [] s5 (lcS nt cs σ) H5 (fun _ _ => False) J5 (stat fr5) st5 go
   rw [eA] at d
   refine thn d fun r s6 hz9 => ?_
   obtain ⟨u, hr, h6⟩ := hz9
   subst hr
   refine thn h6 fun _ s7 hz9 => ?_
   obtain ⟨x, H7, J7, r7, y7, st7, fr7⟩ := hz9
   have J7' := J7.pinned (stat fr7) (T.obj _ _ st7)
   have a := hg' _ s7 (lcS nt cs σ) H7 x u _ J7' r7 (step x H7 y7)
   rw [eA, eP, eW, eE, eX] at a
   refine thn a fun _ s8 ⟨σ8, H8, J8, ⟨e8, d8⟩, q8⟩ => ?_
   have b := ht' _ s8 σ8 H8 _ J8 q8
   rw [eA, eP, eW, eE, eX] at b
   have again : ∀ {s9 : Shared} {H9 : Hp}, Inv X' ([] ++ zi2 fp s7.heap) σ8 H9 s9 -> N H9 -> ∃ m, m < n /\ ∃ i H', Inv X' [] (lcS nt cs σ) H' s9 /\ tn i s9.heap /\ (∀ b ∈ fp, H' b = none) /\ W i m H' := fun {s9 H9} J9 n9 => by
    obtain ⟨m', hm, w9⟩ := hN H9 n9
    refine ⟨m', hm, i + 1, H9, ?_, T.keep _ _ _ st7 fun b hb o e => (J9.pin (b, o) (List.mem_append_right _ (List.mem_append_right _ (zdv hb e)))).1, fun b hb => ?_, w9⟩
    ·refine J9.unpinned.weak ?_ fun j v ej => ?_
     ·rw [e8]; unfold lcS; simp
     ·by_cases hj : j < nt
      ·unfold lcS at ej
       rw [List.getElem?_append_left (by simpa using hj), List.getElem?_replicate] at ej
       split at ej <;> cases ej
      ·have z := congrArg (fun l : St => l[j - nt]?) d8
       simp only [List.getElem?_drop] at z
       rw [show nt + (j - nt) = j by omega] at z
       rw [z]; exact ej
    ·obtain ⟨o, e, _⟩ := T.obj _ _ st7 b hb
     exact (J9.pin (b, o) (List.mem_append_right _ (List.mem_append_right _ (zdv hb e)))).2.1
   refine thn b fun ok s9 hz9 => ?_
   obtain ⟨H9, J9, q9⟩ := hz9
   cases ok with
   | false =>
    rw [if_neg Bool.false_ne_true] at q9 ⊢
    exact again J9 q9
   | true =>
    rw [if_pos rfl] at q9 ⊢
    have c := he' _ s9 σ8 H9 _ J9 q9
    rw [eA, eP, eW, eE, eX] at c
    refine thn c fun y sA hz9 => ?_
    obtain ⟨vy, HA, JA, ry, xs, hl, hz, nA⟩ := hz9
    have ap := zcc (X:=X') _ sA σ8 HA (.ref s2.heap.objs.size) [vy] (.ref s2.heap.objs.size) [y] (fun _ H' => N H') JA rfl (.cons ry .nil) ⟨_, xs, vy, rfl, rfl, hl, hz, nA⟩
    rw [eA, eP, eW, eX] at ap
    refine thn ap fun _ sB hz9 => ?_
    obtain ⟨_, HB, JB, _, nB⟩ := hz9
    exact again JB nB
 exact codeAny_compStart_list loop (T.self X.A 0 _ _ _ st4 loop)
theorem zju (hc : X.calm = true) (L : LcOk X scope N' nt cs) (hi : PI X target iter wi)
  (hg : ∀ s H C fp, PG (lcCx X N' scope s H C fp) target g) (ht : ∀ s H C fp, PIfs (lcCx X N' scope s H C fp) ifs tt) (he : ∀ s H C fp, PE (lcCx X N' scope s H C fp) elt te)
  (hs : ∀ x, foldedSetIterable iter X.env x = pure x := by intro _; rfl) : PE X (.ListComp elt [⟨target, iter, ifs, 0⟩] scope pos) (tLC nt cs wi g tt te) := by
 intro pins s σ H Q I h
 rw [eval_ListComp]
 refine zo6 (use:=none) hc L hi hg ht he I h (fun l H' s' C I' f ⟨m, hm⟩ q => ⟨m, hm, fun h' hs' => ?_⟩) hs
 obtain ⟨f0, f1, f2, f3, f4, f5⟩ := f
 exact ⟨.ref l, H', I'.turned (t':=s'.toks) (fun b o hb e => hs'.extBut b o hb e) f0 f1 f3 f4 f5, rfl, q⟩
theorem zlp {i : Nat} {y : Str} {py spos : Pos} (hN : X.N.Nodup) (hy : X.N[i]? = some y) (hx : Loc X.env.scope y) (hc : X.calm = true) (L : LcOk X scope N' nt cs) (hi : PI X target iter wi)
  (hg : ∀ s H C fp, PG (lcCx X N' scope s H C fp) target g) (ht : ∀ s H C fp, PIfs (lcCx X N' scope s H C fp) ifs tt) (he : ∀ s H C fp, PE (lcCx X N' scope s H C fp) elt te)
  (hsw : swapsWith (.ListComp elt [⟨target, iter, ifs, 0⟩] scope pos) (some (.Name y py)) spos.line X.env = pure true := by rfl)
  (hs : ∀ x, foldedSetIterable iter X.env x = pure x := by intro _; rfl) (hf : X.fn y = true \/ X.env.scope.names.lookup y = some .local := by first | exact .inl rfl | exact .inr rfl | assumption) :
  PS X (.Assign [.Name y py] (.ListComp elt [⟨target, iter, ifs, 0⟩] scope pos) spos) (tAsg (tLC nt cs wi g tt te) (zd7 i)) := by
 intro pins s σ H D I h
 rw [exec_Assign_Name_used _ _ _ _ hsw]
 refine wpAny_bind (wpAny_standAt (wpAny_bind ?_))
 show wpAny _ X.A (do let _ <- comprehension (.ListComp elt [⟨target, iter, ifs, 0⟩] scope pos) scope X.env _ (newList []) false (eval iter X.env) (some (assign (.Name y py) X.env))) _ _ s
 refine wpAny_bind (thn (zo6 (QQ:=fun _ s' => SP X pins D .next s') (use:=some (assign (.Name y py) X.env)) hc L hi hg ht he I h (fun l H' s' C I' f hm q => ?_) hs) (fun _ s' hq => wpAny_pure (wpAny_pure hq)))
 show wpAny _ X.A (assign (.Name y py) X.env (.ref l)) _ _ _
 refine wpAny_assign_Name (zil I' hN hy hx (v:=.ref l) rfl (fun s2 I2 hz9 => ?_) hf)
 obtain ⟨a, hsb, ha⟩ := hz9
 obtain ⟨m, hm⟩ := hm
 obtain ⟨f0, f1, f2, f3, f4, f5⟩ := f
 have hCa : C ≠ a := by
  rcases ha with rfl | ha
  ·exact f1
  ·exact fun z => f4 y a ha z.symm
 refine ⟨m, hm.sameBut hsb hCa, fun h' hs' => ?_⟩
 exact ⟨_, H', I2.turned (t':=s2.toks) (fun b o hb e => hs'.extBut b o hb e) f0 f1 f3 f4 f5, q⟩
end
end L2
namespace L2
open PySem PySem.Spec PyProof.Rows
section
variable {X : Cx} {a b : Expr} {ta tb : TE} {pos : Pos}
theorem zcg : zca X (.builtin "isinstance") (fun xs H Q => ∃ p ys, xs = [.ref p, .ty "list"] /\ SqL X.K H p ys /\ Q (.bl true) H) := by
 intro pins s σ H xs us Q I r h
 obtain ⟨p, ys, rfl, hq, q⟩ := h
 obtain ⟨u, v, rfl, rfl, rfl⟩ := zje r
 obtain ⟨its, _, pl, _⟩ := I.list hq
 obtain ⟨o, n, e, c, hd, _⟩ := pl
 exact IsiPair.list_list e c ⟨.bl true, H, I, rfl, q⟩
theorem zeq : zca X (.builtin "isinstance") (fun xs H Q => ∃ p ys, xs = [.ref p, .ty "tuple"] /\ SqT X.K H p ys /\ Q (.bl true) H) := by
 intro pins s σ H xs us Q I r h
 obtain ⟨p, ys, rfl, hq, q⟩ := h
 obtain ⟨u, v, rfl, rfl, rfl⟩ := zje r
 obtain ⟨its, _, ⟨o, e, c, _⟩, _⟩ := I.tuple hq
 exact IsiPair.tuple_tuple e c ⟨.bl true, H, I, rfl, q⟩
end
end L2
namespace L2
open PySem PySem.Spec PyProof.Rows
theorem SqL.same {K : PySem.W.Frag} {H H' : Hp} {a : Addr} {xs : List V} (e : Same H H') (h : SqL K H a xs) : SqL K H' a xs := e.seq h
theorem SqT.same {K : PySem.W.Frag} {H H' : Hp} {a : Addr} {xs : List V} (e : Same H H') (h : SqT K H a xs) : SqT K H' a xs := by
 rcases h with (h | ⟨o, h⟩) | h
 ·exact .inl (.inl (e _ _ h))
 ·exact .inl (.inr ⟨o, e _ _ h⟩)
 ·exact .inr h
theorem Same.upd {H : Hp} {l : Addr} {o : HO} (h : H l = none) : Same H (upd H l o) := fun b u e => by rw [zaj (zal e h)]; exact e
end L2
namespace L2
open PySem
end L2
namespace L2
open PySem
end L2
namespace L2
open PySem
end L2
namespace L2
open PySem PySem.Spec PyProof.Rows
end L2
namespace L2
open PySem PySem.Spec PyProof.Rows
end L2
namespace L2
open PySem PySem.Spec PyProof.Rows
end L2
namespace L2
open PySem
end L2
namespace L2
open PySem PySem.Spec PyProof.Rows
structure ZipAp (z TI TO i1 i2 : Addr) (fp1 fp2 : List Addr) : Prop where
 TIz : TI ≠ z
 TOz : TO ≠ z
 i1z : i1 ≠ z
 i2z : i2 ≠ z
 TITO : TI ≠ TO
 TIi1 : TI ≠ i1
 TIi2 : TI ≠ i2
 TOi1 : TO ≠ i1
 TOi2 : TO ≠ i2
 i12 : i1 ≠ i2
 m1 : i1 ∈ fp1
 m2 : i2 ∈ fp2
 f1 : ∀ b ∈ fp1, b ≠ z /\ b ≠ TO /\ b ≠ i2
 f2 : ∀ b ∈ fp2, b ≠ z /\ b ≠ TO /\ b ≠ i1
end L2
namespace L2
open PySem PySem.Spec PyProof.Rows
theorem zl5 : typeLookup (.type "list_reverseiterator") "__len__" = pure none := by rw [typeLookup_type, builtinLookup_eq_fast]; kernel_rfl
theorem zh1 : Slot "list_reverseiterator" "__length_hint__" "list_reverseiterator.__length_hint__" :=
 .of (owner:="list_reverseiterator") (n:="__length_hint__") (by rw [typeLookup_type, builtinLookup_eq_fast]; kernel_rfl) (by decide +kernel) (by decide +kernel) (by decide +kernel)
  (by first | exact .inl (by decide +kernel) | exact .inr (by decide +kernel)) (by rw [isSubtype_type]; kernel_rfl)
section
variable {prog : Program} {w : World} {A : Around} {E : Value -> Shared -> Prop} {s : Shared}
theorem zpo {it l : Addr} {i : Int} {Q : Bool -> Shared -> Prop} (hit : s.heap.IsRevIter it l i) (h : Q false s) : wpAny (model prog w) A (Builtin.List.listLengthHint (.ref it)) Q E s := by
 unfold Builtin.List.listLengthHint
 refine wpAny_bind (wpAny_specialOf hit.typeIs zl5 ?_)
 show wpAny _ A (specialOf (Value.ref it) (Str.ofString "__length_hint__") >>= _) _ _ _
 refine wpAny_bind (wpAny_specialOf hit.typeIs zh1.lookup ?_)
 generalize hid : ("list_reverseiterator.__length_hint__" : String) = id0
 wp_delta
 rw [show splitId id0 = some ("list_reverseiterator", "__length_hint__") from by subst hid; decide +kernel]
 subst hid
 refine wpAny_bind (wpAny_isInstance (T:="list_reverseiterator") (b:=true) hit.typeIs (by rw [isSubtype_type]; kernel_rfl) ?_)
 refine wpAny_ite_split (fun hab => absurd hab (by decide)) (fun _ => ?_)
 refine wpAny_ite_split (fun _ => ?_) (fun hab => absurd (by decide +kernel) hab)
 refine wpAny_ite_split (fun hab => absurd hab (by decide +kernel)) (fun _ => ?_)
 exact wpAny_pure h
theorem zma {R : Result -> Shared -> Prop} {r l : Addr} {items : Array Value} (hh : A.handled = none) (hr : s.heap.IsRevIter r l ((items.size : Int) - 1)) (hl : s.heap.IsList l items) (hlen : items.size <= sizeLine) (S : Addr) (res : Value) (c₀ : Nat) (hS : s.heap.get? S = some { cls := .type "list", data := .seq #[] c₀ }) (hSl : S ≠ l) (hlr : l ≠ r)
  (hR : ∀ h' tk acc' c', (∀ b o, b ≠ S -> b ≠ r -> s.heap.get? b = some o -> h'.get? b = some o) -> h'.get? S = some { cls := .type "list", dict := none, data := .seq acc' c', slots := #[] } ->
   ItemsOf (fun i v => items[items.size - 1 - i]? = some v) acc' items.size -> R (.ok (.ret res)) { s with heap := h', toks := tk }) :
  wpAny (model prog w) A.in1 (Builtin.List.listExtendWith (.ref S) (.ref r) res)
   (fun fin s' => match fin with | .done f => R (.ok f) s' | .again c' => c'.quiet = true /\ codeAny (model prog w) A c' R s') (fun e s' => R (.error e) s') s := by
 have hSr : S ≠ r := fun e => by obtain ⟨o, ho, hc, _⟩ := hr; rw [e, ho] at hS; cases hS; simp at hc
 have W := (Walks.listRev (prog:=prog) (w:=w) (A:=A.in1) hh r l hlr items).toS
 unfold Builtin.List.listExtendWith
 refine wpAny_bind (wpAny_typeOf hr.typeIs ?_)
 have h1 : Builtin.List.listSameRef (.ref S) (.ref r) = false := by simp [Builtin.List.listSameRef, hSr]
 have h2 : (Value.type "list_reverseiterator" == Value.type "list") = false := by decide
 have h3 : (Value.type "list_reverseiterator" == Value.type "tuple") = false := by decide
 simp only [h1, h2, h3, Bool.or_false, Bool.false_eq_true, if_false]
 refine wpAny_bind (wpAny_pyIter_revIter hr ?_)
 refine wpAny_bind (wpAny_holding (zpo hr ?_))
 refine wpAny_ite_split (fun hab => absurd hab (by decide +kernel)) (fun _ => ?_)
 have hSf : S ∉ [r, l] := by simp [hSr, hSl]
 refine wpAny_pure ⟨plainId_quiet F.plain_extend_loop _, codeAny_extend_loopS W hlen _ hSf _ items.size 0 _ _ _ rfl (Nat.zero_le _) ⟨Nat.zero_le _, by simpa using hr, hl⟩ hS (ItemsOf.nil _) fun s' acc' c' hm hS' hacc => ?_⟩
 rw [hm.eq_with]
 exact hR _ _ acc' c' (fun b o hb hbr e => hm.heap b o (by simp [hb, hbr]) e) hS' hacc
theorem zga {Q : Value -> Shared -> Prop} {r l : Addr} {items : Array Value} (hh : A.handled = none) (hr : s.heap.IsRevIter r l ((items.size : Int) - 1)) (hl : s.heap.IsList l items) (hlr : l ≠ r) (hlen : items.size <= sizeLine)
  (hQ : ∀ h' tk acc' c', (∀ b o, b ≠ r -> s.heap.get? b = some o -> h'.get? b = some o) ->
   h'.get? s.heap.objs.size = some { cls := .type "list", dict := none, data := .seq acc' c', slots := #[] } -> ItemsOf (fun i v => items[items.size - 1 - i]? = some v) acc' items.size -> Q (.ref s.heap.objs.size) { s with heap := h', toks := tk }) :
  wpAny (model prog w) A (call (.type "list") [.ref r]) Q E s := by
 refine callType_codes (Q₁:=fun obj s₁ => obj = .ref s.heap.objs.size /\ s₁ = { s with heap := s.heap.push { cls := .type "list", data := .seq #[] } }) F.called_list (F.typeCall_list_1 _) F.entry_list_init
  (code_list_new _ ⟨rfl, rfl⟩) fun obj s₁ h₁ => ?_
 obtain ⟨rfl, rfl⟩ := h₁
 have hS : (s.heap.push { cls := .type "list", data := .seq #[] }).get? s.heap.objs.size = some { cls := .type "list", data := .seq #[] } := Heap.get?_push_size _ rfl
 have hr2 : (s.heap.push { cls := .type "list", data := .seq #[] }).IsRevIter r l ((items.size : Int) - 1) := hr.at fun o e => Heap.get?_push_of_some _ e
 have hl2 : (s.heap.push { cls := .type "list", data := .seq #[] }).IsList l items := hl.at fun o e => Heap.get?_push_of_some _ e
 have hrlt : r < s.heap.objs.size := by obtain ⟨o, ho, _⟩ := hr; exact Heap.lt_size ho
 have hllt : l < s.heap.objs.size := by obtain ⟨o, ho, _⟩ := hl; exact Heap.lt_size ho
 refine ⟨⟨_, hS, rfl⟩, F.args_list_init_2 _ _, ?_⟩
 show wpAny _ A.in1.in1 (do let old <- Builtin.List.listItems (.ref s.heap.objs.size); Builtin.List.listUpdate (.ref s.heap.objs.size) (fun _ => #[]); letGo old.toList.reverse; Builtin.List.listExtendWith (.ref s.heap.objs.size) (.ref r) .none) _ _ _
 refine wpAny_bind ?_
 unfold Builtin.List.listItems
 refine wpAny_bind (wpAny_seqItems hS rfl (wpAny_pure ?_))
 show wpAny _ _ (updateSeq s.heap.objs.size (fun _ => #[]) >>= fun _ => letGo (#[] : Array Value).toList.reverse >>= fun _ => Builtin.List.listExtendWith (.ref s.heap.objs.size) (.ref r) .none) _ _ _
 refine wpAny_bind (wpAny_updateSeq hS rfl ?_)
 have hS₂ := Heap.get?_update_self (Obj.mapSeq (fun _ => (#[] : Array Value))) hS rfl
 have oth : ∀ b o, b ≠ s.heap.objs.size -> (s.heap.push { cls := .type "list", data := .seq #[] }).get? b = some o -> ((s.heap.push { cls := .type "list", data := .seq #[] }).update s.heap.objs.size (Obj.mapSeq (fun _ => (#[] : Array Value)))).get? b = some o :=
  fun b o hb e => (Heap.get?_update_other _ _ (Ne.symm hb)).trans e
 refine wpAny_bind (wpAny_letGo ?_)
 refine zma (A:=A.in1) hh (hr2.at fun o e => oth r o (Nat.ne_of_lt hrlt) e) (hl2.at fun o e => oth l o (Nat.ne_of_lt hllt) e) hlen _ .none _ hS₂ (Nat.ne_of_gt hllt) hlr fun h' tk acc' c' hk hS' hacc => ?_
 exact ⟨rfl, hQ h' tk acc' c' (fun b o hbr e => hk b o (Nat.ne_of_lt (Heap.lt_size e)) hbr (oth b o (Nat.ne_of_lt (Heap.lt_size e)) (Heap.get?_push_of_some _ e))) hS' hacc⟩
end
section
variable {X : Cx} {pins : List (Addr × Obj)} {σ : St} {H : Hp} {s : Shared} {h' : Heap} {t' : Nat} {wr : List Addr}
theorem Inv.turnsO (I : Inv X pins σ H s) {T0 : Addr} {nw0 : HO} (hf : ∀ b ∈ wr, FpOk X pins H b) (k : ∀ b o, b ∉ wr -> s.heap.get? b = some o -> h'.get? b = some o) (hT : s.heap.objs.size <= T0) (new : zb4 X.prog X.w (upd H T0 nw0) h' T0 nw0) :
  Inv X pins σ (upd H T0 nw0) { s with heap := h', toks := t' } := by
 have nw : ∀ b u, H b = some u -> b ∉ wr := fun b u e z => by have := (hf b z).1; rw [e] at this; cases this
 have nL : X.env.locals ∉ wr := fun z => (hf _ z).2.1 rfl
 have fresh : H T0 = none := I.hok.fresh hT
 have ne : ∀ b o, s.heap.get? b = some o -> b ≠ T0 := fun b o e => Nat.ne_of_lt (Nat.lt_of_lt_of_le (Heap.lt_size e) hT)
 refine I.step (g':=s.gens) (d':=s.drawn) (ch:=wr) (fun b hb => ?_) (fun b o _ _ hc e _ => k b o hc e) (fun b o _ _ hc e _ => ⟨o.slots, k b o hc e⟩) (fun b o _ e n => by rw [zaj (ne b o e)]; exact n)
  (fun b o hc e => ⟨o, k b o hc e⟩) (fun b xs e => by rw [zaj (zal e fresh)]; exact e) (fun b o u e => by rw [zaj (zal e fresh)]; exact e) (fun b ps e => ⟨#[], by rw [zaj (zal e fresh), e]; simp⟩) (fun m hm => ?_) (fun b u e => ?_) I.bare
 ·obtain ⟨f0, f1, f2, f3, f4, f5⟩ := hf b hb
  exact ⟨f3, f1, f4, f5⟩
 ·obtain ⟨o, es, ep, ho, r⟩ := hm
  exact ⟨o, es, ep, k _ o nL ho, r⟩
 ·by_cases hb : b = T0
  ·subst hb
   rw [zah] at e
   cases e
   exact new
  ·rw [zaj hb] at e
   refine (I.hok b u e).stay (fun c v hc q => k c v ?_ q) (fun c q => by rw [zaj (zal q fresh)]; exact q) fun c xs q => by rw [zaj (zal q fresh)]; exact q
   rcases hc with z | z
   ·rw [z]; exact nw b u e
   ·exact nw c _ z
end
section
variable {X : Cx} {e1 : Expr} {ta : TA} {p pos p2 pos2 : Pos}
noncomputable def zki (K : PySem.W.Frag) (ta : TA) : TE := fun σ H Q => ta σ H fun vs H1 => ∃ a xs, vs = [.ref a] /\ SqL K H1 a xs /\ ∀ l, H1 l = none -> Q (.ref l) (upd H1 l (.lst xs.reverse))
theorem zlv (hc : X.calm = true) (hgl : Gl X "list") (hml : X.mg "list" = none) (hg : Gl X "reversed") (hm : X.mg "reversed" = none) (hA : PA X [e1] ta) (hs : starEach [e1] X.env = [(false, eval e1 X.env)] := by rfl)
  (hs2 : starEach [.Call (.Name "reversed" p) [e1] [] pos] X.env = [(false, eval (.Call (.Name "reversed" p) [e1] [] pos) X.env)] := by rfl) :
  PE X (.Call (.Name "list" p2) [.Call (.Name "reversed" p) [e1] [] pos] [] pos2) (zki X.K ta) := by
 intro pins s σ H Q I h
 refine Call_ (zgo I hgl hml boot_list (PyProof.Rows.callWith_type1 (?_ : wpAny (model X.prog X.w) X.A (spliced (backTo pos2 (starEach [.Call (.Name "reversed" p) [e1] [] pos] X.env))) _ X.xe s) hs2 rfl))
 rw [hs2]
 show wpAny _ _ (spliced ((false, eval (.Call (.Name "reversed" p) [e1] [] pos) X.env) :: [])) _ _ s
 refine Calls.spliced_cons ?_
 refine Call_ (zgo I hg hm boot_reversed (PyProof.Rows.callWith_type1 (thn (hA pos pins s σ H _ I h) fun us s1 hz9 => ?_) hs rfl))
 obtain ⟨vs, H1, I1, r1, q1⟩ := hz9
 obtain ⟨a, xs, rfl, hq, q⟩ := q1
 obtain ⟨u, rfl, ru⟩ := zj8 r1
 cases ru
 obtain ⟨its, rv, pl, hz⟩ := I1.list hq
 have hn : its.toArray.size = xs.length := by rw [rv.length]; simp
 refine call_reversed_list pl.isList (Calls.spliced_nil ?_)
 have up : ∀ b o, s1.heap.get? b = some o -> (s1.heap.push (revObj a ((its.toArray.size : Int) - 1))).get? b = some o := fun b o e => Heap.get?_push_of_some _ e
 have hR : (s1.heap.push (revObj a ((its.toArray.size : Int) - 1))).IsRevIter s1.heap.objs.size a ((its.toArray.size : Int) - 1) := ⟨_, Heap.get?_push_size _ rfl, rfl, rfl⟩
 have I2 : Inv X pins σ H1 { s1 with heap := s1.heap.push (revObj a ((its.toArray.size : Int) - 1)) } := I1.kept (t':=s1.toks) up
 have hal : a < s1.heap.objs.size := by obtain ⟨o, _, ho, _⟩ := id pl; exact Heap.lt_size ho
 have f1 := I1.fpOk (Nat.le_refl _) (I1.hok.fresh (Nat.le_refl _))
 generalize hh2 : s1.heap.push (revObj a ((its.toArray.size : Int) - 1)) = h2 at hR I2 up
 refine zga (s:={ s1 with heap := h2 }) (I1.ok.hd hc) hR (pl.isList.at fun o e => up _ _ e) (Nat.ne_of_lt hal) (by rw [hn]; exact hz) fun h' tk acc c hk hS hacc => ?_
 have hv : Vals xs.reverse acc.toList := by
  obtain ⟨hsz, hit⟩ := hacc
  have e : acc.toList = its.reverse := by
   refine List.ext_getElem? fun i => ?_
   by_cases hi : i < acc.size
   ·have h1 := hit i acc[i] (by simp [hi])
    have h2 : acc.toList[i]? = some acc[i] := by simp [hi]
    rw [h2]
    rw [List.getElem?_reverse (by rw [hsz] at hi; simpa using hi)]
    have : its.toArray[its.toArray.size - 1 - i]? = its[its.length - 1 - i]? := by simp
    rw [<- this, h1]
   ·rw [List.getElem?_eq_none (by simpa using hi), List.getElem?_eq_none (by rw [hsz] at hi; simpa using hi)]
  rw [e]; exact rv.reverse
 have hsz2 : h2.objs.size = s1.heap.objs.size + 1 := by rw [<- hh2, Heap.size_push]
 have hf : ∀ b ∈ [s1.heap.objs.size], FpOk X pins H1 b := fun b hb => by rw [List.mem_singleton.mp hb]; exact f1
 exact ⟨.ref h2.objs.size, _, I2.turnsO (t':=tk) hf (fun b o hb e => hk b o (by simpa using hb) e) (Nat.le_refl _) (show zb4 X.prog X.w _ _ _ (.lst _) from ⟨by rw [List.length_reverse]; exact hz, acc.toList, c, hv, by simpa using hS⟩), rfl, q _ I2.fresh⟩
end
end L2
namespace L2
open PySem
end L2
namespace L2
open PySem PySem.Spec PyProof.Rows
inductive D where
 | non | bl (b : Bool) | int (i : Int) | str (l : List Nat) | lst (xs : List D) | tup (xs : List D) | dct (ks vs : List D) | dctT (ks vs : List D) | ins (C : Addr) (ns : List Str) (vs : List D)
noncomputable instance : Inhabited D := ⟨.non⟩
noncomputable instance : DecidableEq D := Classical.typeDecidableEq D
mutual
noncomputable def D.dep : D -> Nat
 | .lst a => D.deps a + 1
 | .tup a => D.deps a + 1
 | _ => 0
noncomputable def D.deps : List D -> Nat
 | [] => 0
 | a :: x => max a.dep (D.deps x)
end
mutual
noncomputable def D.nb : D -> Bool
 | .bl _ => false
 | .dct _ _ => false
 | .dctT _ _ => false
 | .ins _ _ _ => false
 | .lst a => D.nbs a
 | .tup a => D.nbs a
 | _ => true
noncomputable def D.nbs : List D -> Bool
 | [] => true
 | a :: x => a.nb && D.nbs x
end
section
variable (K : PySem.W.Frag) (H : Hp)
mutual
noncomputable def Rep : D -> V -> Prop
 | .non, v => v = .non
 | .bl b, v => v = .bl b
 | .int i, v => v = .int i
 | .str l, v => v = .str (T l) /\ ∀ c ∈ l, c < 128
 | .lst ds, v => ∃ p xs, v = .ref p /\ SqL K H p xs /\ Reps ds xs
 | .tup ds, v => ∃ p xs, v = .ref p /\ SqT K H p xs /\ Reps ds xs
 | .dct ks vs, v => ∃ p kv, v = .ref p /\ H p = some (.dK kv) /\ Reps ks (kv.map fun q => kV q.1) /\ Reps vs (kv.map fun q => q.2)
 | .dctT ks vs, v => ∃ p kv, v = .ref p /\ H p = some (.dT kv) /\ TKs ks (kv.map fun q => q.1) /\ Reps vs (kv.map fun q => q.2)
 | .ins C ns vs, v => ∃ x dx fs, v = .ref x /\ H x = some (.ins C dx fs) /\ H dx = some (.own x) /\ fs.map (fun q => q.1) = ns /\ Reps vs (fs.map fun q => q.2)
noncomputable def TK : D -> List Key -> Prop
 | .tup es, k => Reps es (k.map kV)
 | _, _ => False
noncomputable def TKs : List D -> List (List Key) -> Prop
 | [], ks => ks = []
 | d :: ds, ks => ∃ k r, ks = k :: r /\ TK d k /\ TKs ds r
noncomputable def Reps : List D -> List V -> Prop
 | [], xs => xs = []
 | d :: ds, xs => ∃ x r, xs = x :: r /\ Rep d x /\ Reps ds r
end
end
section
variable {K : PySem.W.Frag} {H H' : Hp}
mutual
theorem Rep.mono (s : Same H H') : ∀ {d : D} {v : V}, Rep K H d v -> Rep K H' d v
 | .non, _, h => by simpa [Rep] using h
 | .bl _, _, h => by simpa [Rep] using h
 | .int _, _, h => by simpa [Rep] using h
 | .str _, _, h => by simpa [Rep] using h
 | .lst ds, _, h => by
  rw [Rep] at h ⊢
  obtain ⟨p, xs, e, q, r⟩ := h
  exact ⟨p, xs, e, SqL.same s q, Reps.mono s r⟩
 | .tup ds, _, h => by
  rw [Rep] at h ⊢
  obtain ⟨p, xs, e, q, r⟩ := h
  exact ⟨p, xs, e, SqT.same s q, Reps.mono s r⟩
 | .dct ks vs, _, h => by
  rw [Rep] at h ⊢
  obtain ⟨p, kv, e, q, r1, r2⟩ := h
  exact ⟨p, kv, e, s _ _ q, Reps.mono s r1, Reps.mono s r2⟩
 | .dctT ks vs, _, h => by
  rw [Rep] at h ⊢
  obtain ⟨p, kv, e, q, r1, r2⟩ := h
  exact ⟨p, kv, e, s _ _ q, TKs.mono s r1, Reps.mono s r2⟩
 | .ins C ns vs, _, h => by
  rw [Rep] at h ⊢
  obtain ⟨x, dx, fs, e, q1, q2, hn, r⟩ := h
  exact ⟨x, dx, fs, e, s _ _ q1, s _ _ q2, hn, Reps.mono s r⟩
theorem TK.mono (s : Same H H') : ∀ {d : D} {k : List Key}, TK K H d k -> TK K H' d k
 | .tup es, _, h => by rw [TK] at h ⊢; exact Reps.mono s h
 | .non, _, h => by simp [TK] at h
 | .bl _, _, h => by simp [TK] at h
 | .int _, _, h => by simp [TK] at h
 | .str _, _, h => by simp [TK] at h
 | .lst _, _, h => by simp [TK] at h
 | .dct _ _, _, h => by simp [TK] at h
 | .dctT _ _, _, h => by simp [TK] at h
 | .ins _ _ _, _, h => by simp [TK] at h
theorem TKs.mono (s : Same H H') : ∀ {ds : List D} {ks : List (List Key)}, TKs K H ds ks -> TKs K H' ds ks
 | [], _, h => by rw [TKs] at h ⊢; exact h
 | d :: ds, _, h => by
  rw [TKs] at h ⊢
  obtain ⟨k, r, e, a, b⟩ := h
  exact ⟨k, r, e, TK.mono s a, TKs.mono s b⟩
theorem Reps.mono (s : Same H H') : ∀ {ds : List D} {xs : List V}, Reps K H ds xs -> Reps K H' ds xs
 | [], _, h => by simpa [Reps] using h
 | d :: ds, _, h => by
  rw [Reps] at h ⊢
  obtain ⟨x, r, e, a, b⟩ := h
  exact ⟨x, r, e, Rep.mono s a, Reps.mono s b⟩
end
theorem Reps.nil : Reps K H [] [] := by rw [Reps]
theorem Reps.cons {d : D} {ds : List D} {x : V} {xs : List V} (a : Rep K H d x) (b : Reps K H ds xs) : Reps K H (d :: ds) (x :: xs) := by rw [Reps]; exact ⟨x, xs, rfl, a, b⟩
theorem Reps.length : ∀ {ds : List D} {xs : List V}, Reps K H ds xs -> ds.length = xs.length
 | [], _, h => by rw [Reps] at h; subst h; rfl
 | d :: ds, _, h => by
  rw [Reps] at h
  obtain ⟨x, r, rfl, _, b⟩ := h
  simp [b.length]
theorem Reps.get : ∀ {ds : List D} {xs : List V} {i : Nat} {x : V}, Reps K H ds xs -> xs[i]? = some x -> ∃ d, ds[i]? = some d /\ Rep K H d x
 | [], _, _, _, h, e => by rw [Reps] at h; subst h; simp at e
 | d :: ds, _, 0, _, h, e => by
  rw [Reps] at h
  obtain ⟨y, r, rfl, a, _⟩ := h
  cases e
  exact ⟨d, rfl, a⟩
 | d :: ds, _, i + 1, _, h, e => by
  rw [Reps] at h
  obtain ⟨y, r, rfl, _, b⟩ := h
  exact Reps.get (i:=i) b e
theorem Reps.get' : ∀ {ds : List D} {xs : List V} {i : Nat} {d : D}, Reps K H ds xs -> ds[i]? = some d -> ∃ x, xs[i]? = some x /\ Rep K H d x := fun {ds xs i d} h e => by
 have hl := h.length
 have hi := (List.getElem?_eq_some_iff.mp e).1
 obtain ⟨d', e', r⟩ := h.get (i:=i) (x:=xs[i]'(by lia)) (List.getElem?_eq_getElem _)
 rw [e] at e'; cases e'
 exact ⟨_, List.getElem?_eq_getElem _, r⟩
theorem Reps.append : ∀ {ds es : List D} {xs ys : List V}, Reps K H ds xs -> Reps K H es ys -> Reps K H (ds ++ es) (xs ++ ys)
 | [], _, _, _, h, h2 => by rw [Reps] at h; subst h; exact h2
 | d :: ds, _, _, _, h, h2 => by
  rw [Reps] at h
  obtain ⟨y, r, rfl, a, b⟩ := h
  exact Reps.cons a (Reps.append b h2)
theorem Reps.snoc {ds : List D} {xs : List V} {d : D} {x : V} (h : Reps K H ds xs) (a : Rep K H d x) : Reps K H (ds ++ [d]) (xs ++ [x]) := h.append (.cons a .nil)
theorem Reps.drop : ∀ (n : Nat) {ds : List D} {xs : List V}, Reps K H ds xs -> Reps K H (ds.drop n) (xs.drop n)
 | 0, _, _, h => h
 | n + 1, [], _, h => by rw [Reps] at h; subst h; exact Reps.nil
 | n + 1, d :: ds, _, h => by
  rw [Reps] at h
  obtain ⟨y, r, rfl, _, b⟩ := h
  exact Reps.drop n b
theorem Reps.take : ∀ (n : Nat) {ds : List D} {xs : List V}, Reps K H ds xs -> Reps K H (ds.take n) (xs.take n)
 | 0, _, _, h => Reps.nil
 | n + 1, [], _, h => by rw [Reps] at h; subst h; exact Reps.nil
 | n + 1, d :: ds, _, h => by
  rw [Reps] at h
  obtain ⟨y, r, rfl, a, b⟩ := h
  exact Reps.cons a (Reps.take n b)
theorem Rep.lst {ds : List D} {p : Addr} {xs : List V} (q : SqL K H p xs) (r : Reps K H ds xs) : Rep K H (.lst ds) (.ref p) := by rw [Rep]; exact ⟨p, xs, rfl, q, r⟩
theorem Rep.tup {ds : List D} {p : Addr} {xs : List V} (q : SqT K H p xs) (r : Reps K H ds xs) : Rep K H (.tup ds) (.ref p) := by rw [Rep]; exact ⟨p, xs, rfl, q, r⟩
theorem Rep.int {i : Int} : Rep K H (.int i) (.int i) := by rw [Rep]
theorem Rep.bl {b : Bool} : Rep K H (.bl b) (.bl b) := by rw [Rep]
theorem Rep.str {l : List Nat} (h : ∀ c ∈ l, c < 128) : Rep K H (.str l) (.str (T l)) := by rw [Rep]; exact ⟨rfl, h⟩
theorem Rep.non : Rep K H .non .non := by rw [Rep]
theorem Rep.of_int {i : Int} {v : V} (h : Rep K H (.int i) v) : v = .int i := by rw [Rep] at h; exact h
theorem Rep.of_bl {b : Bool} {v : V} (h : Rep K H (.bl b) v) : v = .bl b := by rw [Rep] at h; exact h
theorem Rep.of_str {l : List Nat} {v : V} (h : Rep K H (.str l) v) : v = .str (T l) := by rw [Rep] at h; exact h.1
theorem Rep.asc {l : List Nat} {v : V} (h : Rep K H (.str l) v) : ∀ c ∈ l, c < 128 := by rw [Rep] at h; exact h.2
theorem Rep.of_non {v : V} (h : Rep K H .non v) : v = .non := by rw [Rep] at h; exact h
theorem Rep.of_lst {ds : List D} {v : V} (h : Rep K H (.lst ds) v) : ∃ p xs, v = .ref p /\ SqL K H p xs /\ Reps K H ds xs := by rw [Rep] at h; exact h
theorem Rep.of_tup {ds : List D} {v : V} (h : Rep K H (.tup ds) v) : ∃ p xs, v = .ref p /\ SqT K H p xs /\ Reps K H ds xs := by rw [Rep] at h; exact h
end
structure Ext (G H₀ F H : Hp) : Prop where
 gf : Same G F
 fh : Same F H
 hh : Same H₀ H
 no : ∀ b o, H₀ b = some o -> F b = G b
theorem Ext.refl {G H : Hp} (s : Same G H) : Ext G H G H := ⟨Same.refl _, s, Same.refl _, fun _ _ _ => rfl⟩
theorem Ext.trans {G H F1 H1 F2 H2 : Hp} (a : Ext G H F1 H1) (b : Ext F1 H1 F2 H2) : Ext G H F2 H2 :=
 ⟨a.gf.trans b.gf, b.fh, a.hh.trans b.hh, fun c o e => (b.no c o (a.hh c o e)).trans (a.no c o e)⟩
theorem Ext.newF {G H₀ F H : Hp} (x : Ext G H₀ F H) {p : Addr} {o : HO} (hp : H p = none) : Ext G H₀ (upd F p o) (upd H p o) := by
 have fp : F p = none := x.fh.free hp
 refine ⟨x.gf.trans (Same.upd fp), fun b u e => ?_, x.hh.trans (Same.upd hp), fun b u e => ?_⟩
 ·by_cases hb : b = p
  ·subst hb; rw [zah] at e ⊢; exact e
  ·rw [zaj hb] at e ⊢; exact x.fh b u e
 ·have hb : b ≠ p := fun z => by subst z; have := x.hh b u e; rw [hp] at this; cases this
  rw [zaj hb]; exact x.no b u e
theorem Ext.newO {G H₀ F H : Hp} (x : Ext G H₀ F H) {p : Addr} {o : HO} (hp : H p = none) : Ext G H₀ F (upd H p o) :=
 ⟨x.gf, x.fh.trans (Same.upd hp), x.hh.trans (Same.upd hp), x.no⟩
theorem Ext.write {G H₀ F H : Hp} (x : Ext G H₀ F H) {p : Addr} {o : HO} (fp : F p = none) (hp : H₀ p = none) : Ext G H₀ F (upd H p o) :=
 ⟨x.gf, fun b u e => by rw [zaj (zal e fp)]; exact x.fh b u e, fun b u e => by rw [zaj (zal e hp)]; exact x.hh b u e, x.no⟩
theorem Ext.freeze {G H₀ F H : Hp} (x : Ext G H₀ F H) {p : Addr} {o : HO} (fp : F p = none) (hp : H₀ p = none) (e : H p = some o) : Ext G H₀ (upd F p o) H := by
 refine ⟨x.gf.trans (Same.upd fp), fun b u q => ?_, x.hh, fun b u q => ?_⟩
 ·by_cases hb : b = p
  ·subst hb; rw [zah] at q; cases q; exact e
  ·rw [zaj hb] at q; exact x.fh b u q
 ·rw [zaj (zal q hp)]; exact x.no b u q
inductive Sl where
 | un | d (x : D) | o (p : Addr) (xs : List D) | oo (p : Addr) (qs : List (Addr × List D)) | g (v : V) (as : List Addr) (W : Hp -> Hp -> Prop)
noncomputable def Sl.ads : Sl -> List Addr
 | .un => [] | .d _ => [] | .o p _ => [p] | .oo p qs => p :: qs.map (·.1) | .g _ as _ => as
noncomputable def OwnL (K : PySem.W.Frag) (H₀ F H : Hp) (p : Addr) (xs : List D) : Prop := H₀ p = none /\ F p = none /\ ∃ vs, H p = some (.lst vs) /\ Reps K F xs vs
noncomputable def Stab (as : List Addr) (W : Hp -> Hp -> Prop) : Prop := ∀ F1 H1 F2 H2 : Hp, Same F1 F2 -> (∀ a ∈ as, H2 a = H1 a) -> W F1 H1 -> W F2 H2
noncomputable def SlOk (K : PySem.W.Frag) (H₀ F H : Hp) (ov : Option V) : Sl -> Prop
 | .un => True
 | .d x => ∃ v, ov = some v /\ Rep K F x v
 | .o p xs => ov = some (.ref p) /\ OwnL K H₀ F H p xs
 | .oo p qs => ov = some (.ref p) /\ H₀ p = none /\ F p = none /\ H p = some (.lst (qs.map fun q => V.ref q.1)) /\ ∀ q ∈ qs, OwnL K H₀ F H q.1 q.2
 | .g v as W => ov = some v /\ (∀ a ∈ as, H₀ a = none /\ F a = none /\ ∃ o, H a = some o) /\ W F H /\ Stab as W
structure Sat (K : PySem.W.Frag) (G H₀ L F H : Hp) (σ : St) (ss : List Sl) : Prop where
 ext : Ext G H₀ F H
 fl : Same L F
 len : σ.length = ss.length
 ok : ∀ (i : Nat) s, ss[i]? = some s -> SlOk K H₀ F H (σ.getD i none) s
 nd : ∀ (i : Nat) s, ss[i]? = some s -> s.ads.Nodup
 ne : ∀ (i j : Nat) s s', i ≠ j -> ss[i]? = some s -> ss[j]? = some s' -> ∀ p ∈ s.ads, p ∉ s'.ads
section
variable {K : PySem.W.Frag} {H₀ F H F' H' : Hp}
theorem OwnL.ext2 {p : Addr} {xs : List D} (h : OwnL K H₀ F H p xs) (e : Ext F H F' H') : OwnL K H₀ F' H' p xs := by
 obtain ⟨h0, fp, vs, hp, r⟩ := h
 exact ⟨h0, (e.no p _ hp).trans fp, vs, e.hh p _ hp, r.mono e.gf⟩
theorem SlOk.ext2 {ov : Option V} {s : Sl} (h : SlOk K H₀ F H ov s) (e : Ext F H F' H') : SlOk K H₀ F' H' ov s := by
 cases s with
 | un => trivial
 | d x => obtain ⟨v, ev, r⟩ := h; exact ⟨v, ev, r.mono e.gf⟩
 | o p xs => exact ⟨h.1, h.2.ext2 e⟩
 | oo p qs =>
  obtain ⟨ev, h0, fp, hp, hq⟩ := h
  exact ⟨ev, h0, (e.no p _ hp).trans fp, e.hh p _ hp, fun q hm => (hq q hm).ext2 e⟩
 | g v as W =>
  obtain ⟨ev, ha, hw, st⟩ := h
  refine ⟨ev, fun a hm => ?_, st _ _ _ _ e.gf (fun a hm => ?_) hw, st⟩
  ·obtain ⟨h0, fa, o, ho⟩ := ha a hm
   exact ⟨h0, (e.no a _ ho).trans fa, o, e.hh a _ ho⟩
  ·obtain ⟨h0, fa, o, ho⟩ := ha a hm
   rw [e.hh a _ ho, ho]
theorem OwnL.updNe {p a : Addr} {o : HO} {xs : List D} (h : OwnL K H₀ F H p xs) (hn : p ≠ a) : OwnL K H₀ F (upd H a o) p xs := by
 obtain ⟨h0, fp, vs, hp, r⟩ := h
 exact ⟨h0, fp, vs, by rw [zaj hn]; exact hp, r⟩
theorem SlOk.updNe {ov : Option V} {s : Sl} {a : Addr} {o : HO} (h : SlOk K H₀ F H ov s) (hn : a ∉ s.ads) : SlOk K H₀ F (upd H a o) ov s := by
 cases s with
 | un => trivial
 | d x => exact h
 | o p xs => exact ⟨h.1, h.2.updNe fun z => hn (by simp [Sl.ads, z])⟩
 | oo p qs =>
  obtain ⟨ev, h0, fp, hp, hq⟩ := h
  refine ⟨ev, h0, fp, by rw [zaj fun z => hn (by simp [Sl.ads, z])]; exact hp, fun q hm => (hq q hm).updNe fun z => hn ?_⟩
  rw [<- z]
  exact List.mem_cons_of_mem _ (List.mem_map_of_mem hm)
 | g v as W =>
  obtain ⟨ev, ha, hw, st⟩ := h
  have hne : ∀ b ∈ as, b ≠ a := fun b hm z => hn (by rw [<- z]; exact hm)
  refine ⟨ev, fun b hm => ?_, st _ _ _ _ (Same.refl _) (fun b hm => zaj (hne b hm)) hw, st⟩
  obtain ⟨h0, fa, x, ho⟩ := ha b hm
  exact ⟨h0, fa, x, by rw [zaj (hne b hm)]; exact ho⟩
theorem OwnL.frz {p a : Addr} {o : HO} {xs : List D} (h : OwnL K H₀ F H p xs) (fa : F a = none) (hn : p ≠ a) : OwnL K H₀ (upd F a o) H p xs := by
 obtain ⟨h0, fp, vs, hp, r⟩ := h
 exact ⟨h0, by rw [zaj hn]; exact fp, vs, hp, r.mono (Same.upd fa)⟩
theorem SlOk.frz {ov : Option V} {s : Sl} {a : Addr} {o : HO} (h : SlOk K H₀ F H ov s) (fa : F a = none) (hn : a ∉ s.ads) : SlOk K H₀ (upd F a o) H ov s := by
 cases s with
 | un => trivial
 | d x => obtain ⟨v, ev, r⟩ := h; exact ⟨v, ev, r.mono (Same.upd fa)⟩
 | o p xs => exact ⟨h.1, h.2.frz fa fun z => hn (by simp [Sl.ads, z])⟩
 | oo p qs =>
  obtain ⟨ev, h0, fp, hp, hq⟩ := h
  refine ⟨ev, h0, by rw [zaj fun z => hn (by simp [Sl.ads, z])]; exact fp, hp, fun q hm => (hq q hm).frz fa fun z => hn ?_⟩
  rw [<- z]
  exact List.mem_cons_of_mem _ (List.mem_map_of_mem hm)
 | g v as W =>
  obtain ⟨ev, ha, hw, st⟩ := h
  have hne : ∀ b ∈ as, b ≠ a := fun b hm z => hn (by rw [<- z]; exact hm)
  refine ⟨ev, fun b hm => ?_, st _ _ _ _ (Same.upd fa) (fun _ _ => rfl) hw, st⟩
  obtain ⟨h0, fb, x, ho⟩ := ha b hm
  exact ⟨h0, by rw [zaj (hne b hm)]; exact fb, x, ho⟩
theorem SlOk.live {ov : Option V} {s : Sl} (h : SlOk K H₀ F H ov s) {p : Addr} (hp : p ∈ s.ads) : H p ≠ none := by
 cases s with
 | un => simp [Sl.ads] at hp
 | d x => simp [Sl.ads] at hp
 | o q xs =>
  obtain ⟨_, _, _, vs, hq, _⟩ := h
  simp [Sl.ads] at hp; subst hp; rw [hq]; simp
 | oo q qs =>
  obtain ⟨ev, h0, fp, hq, hqs⟩ := h
  rcases List.mem_cons.mp hp with rfl | hp
  ·rw [hq]; simp
  ·obtain ⟨r, hr, rfl⟩ := List.mem_map.mp hp
   obtain ⟨_, _, vs, hv, _⟩ := hqs r hr
   rw [hv]; simp
 | g v as W =>
  obtain ⟨ev, ha, hw, st⟩ := h
  obtain ⟨_, _, x, ho⟩ := ha p hp
  rw [ho]; simp
end
end L2
namespace L2
open PySem PySem.Spec PyProof.Rows
section
variable {K : PySem.W.Frag} {G H₀ L F H F' H' : Hp} {σ : St} {ss : List Sl}
theorem Sat.ext2 (S : Sat K G H₀ L F H σ ss) (e : Ext F H F' H') : Sat K G H₀ L F' H' σ ss :=
 ⟨S.ext.trans e, S.fl.trans e.gf, S.len, fun i s hs => (S.ok i s hs).ext2 e, S.nd, S.ne⟩
theorem Sat.get (S : Sat K G H₀ L F H σ ss) {i : Nat} {s : Sl} (hs : ss[i]? = some s) (hn : s ≠ .un) : ∃ v, σ[i]? = some (some v) /\ SlOk K H₀ F H (some v) s := by
 have hi : i < σ.length := by rw [S.len]; exact (List.getElem?_eq_some_iff.mp hs).1
 have := S.ok i s hs
 rw [List.getD_eq_getElem?_getD, List.getElem?_eq_getElem hi] at this
 simp only [Option.getD_some] at this
 cases hv : σ[i] with
 | none =>
  rw [hv] at this
  cases s with
  | un => exact absurd rfl hn
  | d x => obtain ⟨v, ev, _⟩ := this; cases ev
  | o p xs => obtain ⟨ev, _⟩ := this; cases ev
  | oo p qs => obtain ⟨ev, _⟩ := this; cases ev
  | g v as W => obtain ⟨ev, _⟩ := this; cases ev
 | some v =>
  rw [hv] at this
  exact ⟨v, by rw [List.getElem?_eq_getElem hi, hv], this⟩
theorem Sat.getD (S : Sat K G H₀ L F H σ ss) {i : Nat} {x : D} (hs : ss[i]? = some (.d x)) : ∃ v, σ[i]? = some (some v) /\ Rep K F x v := by
 obtain ⟨v, e, w, ew, r⟩ := S.get hs (by intro z; cases z)
 cases ew
 exact ⟨v, e, r⟩
theorem Sat.getO (S : Sat K G H₀ L F H σ ss) {i : Nat} {p : Addr} {xs : List D} (hs : ss[i]? = some (.o p xs)) : σ[i]? = some (some (.ref p)) /\ OwnL K H₀ F H p xs := by
 obtain ⟨v, e, ew, r⟩ := S.get hs (by intro z; cases z)
 cases ew
 exact ⟨e, r⟩
theorem zbh {σ : St} {i : Nat} {v : Option V} (h : i < σ.length) : (σ.set i v).getD i none = v := by
 rw [List.getD_eq_getElem?_getD, List.getElem?_set_self h]; rfl
theorem zbr {σ : St} {i j : Nat} {v : Option V} (h : i ≠ j) : (σ.set i v).getD j none = σ.getD j none := by
 rw [List.getD_eq_getElem?_getD, List.getElem?_set_ne h, List.getD_eq_getElem?_getD]
theorem zdd {i j : Nat} {s t : Sl} (h : (ss.set i s)[j]? = some t) : (i = j /\ t = s /\ i < ss.length) \/ (i ≠ j /\ ss[j]? = some t) := by
 by_cases hj : i = j
 ·subst hj
  have hi := (List.getElem?_eq_some_iff.mp h).1
  rw [List.length_set] at hi
  rw [List.getElem?_set_self hi] at h
  exact .inl ⟨rfl, (Option.some.inj h).symm, hi⟩
 ·rw [List.getElem?_set_ne hj] at h; exact .inr ⟨hj, h⟩
theorem Sat.put {σ' : St} (S : Sat K G H₀ L F H σ ss) {i : Nat} {s : Sl} (ex : Ext G H₀ F' H') (fl : Same L F') (hl : σ'.length = σ.length) (hσ : ∀ j, j ≠ i -> σ'.getD j none = σ.getD j none) (hi : i < ss.length -> SlOk K H₀ F' H' (σ'.getD i none) s)
  (nd : s.ads.Nodup) (dj : ∀ (j : Nat) s', j ≠ i -> ss[j]? = some s' -> ∀ p ∈ s.ads, p ∉ s'.ads) (st : ∀ (j : Nat) s', j ≠ i -> ss[j]? = some s' -> SlOk K H₀ F' H' (σ.getD j none) s') : Sat K G H₀ L F' H' σ' (ss.set i s) := by
 refine ⟨ex, fl, by rw [List.length_set, hl, S.len], fun j t ht => ?_, fun j t ht => ?_, fun j k t u hjk ht hu => ?_⟩
 ·rcases zdd ht with ⟨rfl, rfl, hlt⟩ | ⟨hj, ht⟩
  ·exact hi hlt
  ·rw [hσ j (Ne.symm hj)]; exact st j t (Ne.symm hj) ht
 ·rcases zdd ht with ⟨rfl, rfl, _⟩ | ⟨hj, ht⟩
  ·exact nd
  ·exact S.nd j t ht
 ·rcases zdd ht with ⟨rfl, rfl, _⟩ | ⟨hj, ht'⟩
  ·rcases zdd hu with ⟨rfl, rfl, _⟩ | ⟨hk, hu'⟩
   ·exact absurd rfl hjk
   ·exact dj k u (Ne.symm hk) hu'
  ·rcases zdd hu with ⟨rfl, rfl, _⟩ | ⟨hk, hu'⟩
   ·exact fun p hp hp' => dj j t (Ne.symm hj) ht' p hp' hp
   ·exact S.ne j k t u hjk ht' hu'
theorem Sat.setD (S : Sat K G H₀ L F H σ ss) {i : Nat} {x : D} {v : V} (r : Rep K F x v) : Sat K G H₀ L F H (σ.set i (some v)) (ss.set i (.d x)) :=
 S.put S.ext S.fl (by simp) (fun j hj => zbr (Ne.symm hj)) (fun hi => by rw [zbh (by rw [S.len]; exact hi)]; exact ⟨v, rfl, r⟩) (by simp [Sl.ads]) (fun _ _ _ _ p hp => by simp [Sl.ads] at hp) fun j s' _ h => S.ok j s' h
theorem Sat.setO (S : Sat K G H₀ L F H σ ss) {i : Nat} {xs : List D} {p : Addr} (r : OwnL K H₀ F H p xs) (hne : ∀ (j : Nat) s', j ≠ i -> ss[j]? = some s' -> p ∉ s'.ads) : Sat K G H₀ L F H (σ.set i (some (.ref p))) (ss.set i (.o p xs)) :=
 S.put S.ext S.fl (by simp) (fun j hj => zbr (Ne.symm hj)) (fun hi => by rw [zbh (by rw [S.len]; exact hi)]; exact ⟨rfl, r⟩) (by simp [Sl.ads]) (fun j s' hj h q hq => by simp [Sl.ads] at hq; subst hq; exact hne j s' hj h) fun j s' _ h => S.ok j s' h
theorem Sat.write (S : Sat K G H₀ L F H σ ss) {i : Nat} {xs ys : List D} {p : Addr} {vs : List V} (hs : ss[i]? = some (.o p xs)) (r : Reps K F ys vs) : Sat K G H₀ L F (upd H p (.lst vs)) σ (ss.set i (.o p ys)) := by
 obtain ⟨e, h0, fp, ws, hp, _⟩ := S.getO hs
 have hget : σ.getD i none = some (.ref p) := by rw [List.getD_eq_getElem?_getD, e]; rfl
 refine S.put (S.ext.write fp h0) S.fl rfl (fun _ _ => rfl) (fun _ => by rw [hget]; exact ⟨rfl, h0, fp, vs, zah, r⟩) (by simp [Sl.ads]) (fun j s' hj h q hq => ?_) fun j s' hj h => (S.ok j s' h).updNe (S.ne i j _ s' (Ne.symm hj) hs h p (by simp [Sl.ads]))
 simp [Sl.ads] at hq; subst hq
 exact S.ne i j _ s' (Ne.symm hj) hs h q (by simp [Sl.ads])
theorem Sat.freeze (S : Sat K G H₀ L F H σ ss) {i : Nat} {p : Addr} {xs : List D} (hs : ss[i]? = some (.o p xs)) : ∃ F', Sat K G H₀ L F' H σ (ss.set i (.d (.lst xs))) := by
 obtain ⟨e, h0, fp, vs, hp, r⟩ := S.getO hs
 have hget : σ.getD i none = some (.ref p) := by rw [List.getD_eq_getElem?_getD, e]; rfl
 exact ⟨upd F p (.lst vs), S.put (S.ext.freeze fp h0 hp) (S.fl.trans (Same.upd fp)) rfl (fun _ _ => rfl) (fun _ => by rw [hget]; exact ⟨_, rfl, Rep.lst (SqL.of zah) (r.mono (Same.upd fp))⟩) (by simp [Sl.ads]) (fun _ _ _ _ q hq => by simp [Sl.ads] at hq)
  fun j s' hj h => (S.ok j s' h).frz fp (S.ne i j _ s' (Ne.symm hj) hs h p (by simp [Sl.ads]))⟩
theorem Sat.forget (S : Sat K G H₀ L F H σ ss) (i : Nat) : Sat K G H₀ L F H σ (ss.set i .un) :=
 S.put S.ext S.fl rfl (fun _ _ => rfl) (fun _ => trivial) (by simp [Sl.ads]) (fun _ _ _ _ p hp => by simp [Sl.ads] at hp) fun j s' _ h => S.ok j s' h
theorem Sat.raise (S : Sat K G H₀ L F H σ ss) : Sat K G H₀ F F H σ ss := ⟨S.ext, Same.refl _, S.len, S.ok, S.nd, S.ne⟩
theorem Sat.lower {L' : Hp} (S : Sat K G H₀ L' F H σ ss) (h : Same L L') : Sat K G H₀ L F H σ ss := ⟨S.ext, h.trans S.fl, S.len, S.ok, S.nd, S.ne⟩
end
section
variable (K : PySem.W.Frag) (G H₀ L : Hp) (ss : List Sl)
noncomputable def Ev (t : TE) (d : D) : Prop := ∀ F H σ Q, Sat K G H₀ L F H σ ss -> (∀ v F' H', Ext F H F' H' -> Rep K F' d v -> Q v H') -> t σ H Q
noncomputable def EvO (t : TE) (ds : List D) : Prop := ∀ F H σ Q, Sat K G H₀ L F H σ ss -> (∀ p vs F' H', Ext F H F' H' -> H p = none -> F' p = none -> H' p = some (.lst vs) -> Reps K F' ds vs -> Q (.ref p) H') -> t σ H Q
noncomputable def EvL (t : TE) (ds : List D) : Prop := ∀ F H σ Q, Sat K G H₀ L F H σ ss -> (∀ p vs F' H', Ext F H F' H' -> SqL K H' p vs -> Reps K F' ds vs -> Q (.ref p) H') -> t σ H Q
noncomputable def EvB (t : TE) (d : D) : Prop := ∀ F H σ Q, Sat K G H₀ L F H σ ss -> (∀ v F' H', Ext F H F' H' -> Rep K H' d v -> Q v H') -> t σ H Q
noncomputable def EvT (t : TT) (b : Bool) : Prop := ∀ F H σ (Q : Bool -> Hp -> Prop), Sat K G H₀ L F H σ ss -> (∀ F' H', Ext F H F' H' -> Q b H') -> t σ H Q
noncomputable def EvA (t : TA) (ds : List D) : Prop := ∀ F H σ (Q : List V -> Hp -> Prop), Sat K G H₀ L F H σ ss -> (∀ vs F' H', Ext F H F' H' -> Reps K H' ds vs -> Q vs H') -> t σ H Q
noncomputable def EvAF (t : TA) (ds : List D) : Prop := ∀ F H σ (Q : List V -> Hp -> Prop), Sat K G H₀ L F H σ ss -> (∀ vs F' H', Ext F H F' H' -> Reps K F' ds vs -> Q vs H') -> t σ H Q
end
section
variable {K : PySem.W.Frag} {G H₀ L : Hp} {ss : List Sl} {t ta tb : TE} {d d1 d2 : D} {ds es : List D}
theorem EvO.ev (h : EvO K G H₀ L ss t ds) : Ev K G H₀ L ss t (.lst ds) := fun F H σ Q S q => h F H σ Q S fun p vs F' H' e hp fp hp' r => q _ _ _ (e.freeze fp hp hp') (Rep.lst (SqL.of zah) (r.mono (Same.upd fp)))
theorem EvO.l (h : EvO K G H₀ L ss t ds) : EvL K G H₀ L ss t ds := fun F H σ Q S q => h F H σ Q S fun p vs F' H' e hp fp hp' r => q _ _ _ _ e (SqL.of hp') r
theorem Ev.l (h : Ev K G H₀ L ss t (.lst ds)) : EvL K G H₀ L ss t ds := fun F H σ Q S q => h F H σ Q S fun v F' H' e r => by
 obtain ⟨p, xs, rfl, sq, rs⟩ := r.of_lst
 exact q _ _ _ _ e (SqL.same e.fh sq) rs
theorem Ev.b (h : Ev K G H₀ L ss t d) : EvB K G H₀ L ss t d := fun F H σ Q S q => h F H σ Q S fun v F' H' e r => q _ _ _ e (r.mono e.fh)
theorem EvL.b (h : EvL K G H₀ L ss t ds) : EvB K G H₀ L ss t (.lst ds) := fun F H σ Q S q => h F H σ Q S fun p vs F' H' e sq r => q _ _ _ e (Rep.lst sq (r.mono e.fh))
theorem zab {i : Nat} (hs : ss[i]? = some (.d d)) : Ev K G H₀ L ss (tVar i) d := fun F H σ Q S q => by
 obtain ⟨v, e, r⟩ := S.getD hs
 exact ⟨v, e, q _ _ _ (Ext.refl S.ext.fh) r⟩
theorem zea {i : Nat} {p : Addr} (hs : ss[i]? = some (.o p ds)) : EvL K G H₀ L ss (tVar i) ds := fun F H σ Q S q => by
 obtain ⟨e, h0, fp, vs, hp, r⟩ := S.getO hs
 exact ⟨.ref p, e, q _ _ _ _ (Ext.refl S.ext.fh) (SqL.of hp) r⟩
theorem zag {i : Int} : Ev K G H₀ L ss (tC (.int i)) (.int i) := fun F H σ Q S q => q _ _ _ (Ext.refl S.ext.fh) Rep.int
theorem zti {b : Bool} : Ev K G H₀ L ss (tC (.bl b)) (.bl b) := fun F H σ Q S q => q _ _ _ (Ext.refl S.ext.fh) Rep.bl
theorem zc6 {x : Str} {l : List Nat} (h : x = T l) (ha : ∀ c ∈ l, c < 128) : Ev K G H₀ L ss (tC (.str x)) (.str l) := fun F H σ Q S q => by subst h; exact q _ _ _ (Ext.refl S.ext.fh) (Rep.str ha)
theorem zdr {r : R2} {w : V} (a : EvB K G H₀ L ss ta d1) (b : EvB K G H₀ L ss tb d2) (hr : ∀ H x y (Q : VK), Rep K H d1 x -> Rep K H d2 y -> Q w H -> r x y H Q) (hw : ∀ F H x y, Rep K H d1 x -> Rep K H d2 y -> Rep K F d w) : Ev K G H₀ L ss (tOp r ta tb) d := fun F H σ Q S q =>
 a F H σ _ S fun x F1 H1 e1 r1 => b F1 H1 σ _ (S.ext2 e1) fun y F2 H2 e2 r2 => hr H2 x y Q (r1.mono e2.hh) r2 (q _ _ _ (e1.trans e2) (hw _ _ _ _ (r1.mono e2.hh) r2))
theorem zc7 {i j : Int} (a : EvB K G H₀ L ss ta (.int i)) (b : EvB K G H₀ L ss tb (.int j)) : Ev K G H₀ L ss (tOp (rI0 fun i j => .int (i + j)) ta tb) (.int (i + j)) :=
 zdr a b (fun H x y Q r1 r2 q => ⟨i, j, r1.of_int, r2.of_int, q⟩) fun _ _ _ _ _ _ => Rep.int
theorem zmh {C : Int -> Int -> Prop} {g : Int -> Int -> Int} {i j : Int} (a : EvB K G H₀ L ss ta (.int i)) (b : EvB K G H₀ L ss tb (.int j)) (hC : C i j) : Ev K G H₀ L ss (tOp (rI C fun i j => .int (g i j)) ta tb) (.int (g i j)) :=
 zdr a b (fun H x y Q r1 r2 q => ⟨i, j, r1.of_int, r2.of_int, hC, q⟩) fun _ _ _ _ _ _ => Rep.int
theorem zs5 {g : Int -> Int -> Bool} {i j : Int} (a : EvB K G H₀ L ss ta (.int i)) (b : EvB K G H₀ L ss tb (.int j)) : Ev K G H₀ L ss (tOp (rI0 fun i j => .bl (g i j)) ta tb) (.bl (g i j)) :=
 zdr a b (fun H x y Q r1 r2 q => ⟨i, j, r1.of_int, r2.of_int, q⟩) fun _ _ _ _ _ _ => Rep.bl
theorem znv {i j : Int} (a : EvB K G H₀ L ss ta (.int i)) (b : EvB K G H₀ L ss tb (.int j)) : Ev K G H₀ L ss (tOp rEq ta tb) (.bl (decide (i = j))) :=
 zdr (w:=.bl (decide (i = j))) a b (fun H x y Q r1 r2 q => by rw [r1.of_int, r2.of_int]; exact ⟨rfl, by simpa using q⟩) fun _ _ _ _ _ _ => Rep.bl
theorem ziz {l m : List Nat} (a : EvB K G H₀ L ss ta (.str l)) (b : EvB K G H₀ L ss tb (.str m)) : Ev K G H₀ L ss (tOp rEq ta tb) (.bl (decide (l = m))) :=
 zdr (w:=.bl (decide (l = m))) a b (fun H x y Q r1 r2 q => by rw [r1.of_str, r2.of_str]; exact ⟨rfl, by rw [zkw]; exact q⟩) fun _ _ _ _ _ _ => Rep.bl
theorem zuf {l m : List Nat} (a : EvB K G H₀ L ss ta (.str l)) (b : EvB K G H₀ L ss tb (.str m)) : Ev K G H₀ L ss (tOp rNe ta tb) (.bl (!decide (l = m))) :=
 zdr (w:=.bl (!decide (l = m))) a b (fun H x y Q r1 r2 q => by rw [r1.of_str, r2.of_str]; exact ⟨rfl, by rw [zkw]; exact q⟩) fun _ _ _ _ _ _ => Rep.bl
theorem znr {l m : List Nat} (a : EvB K G H₀ L ss ta (.str l)) (b : EvB K G H₀ L ss tb (.str m)) (hz : l.length + m.length <= sizeLine) :
  Ev K G H₀ L ss (tOp (fun x y H Q => ∃ i j, x = .str i /\ y = .str j /\ i.length + j.length <= sizeLine /\ Q (.str (i ++ j)) H) ta tb) (.str (l ++ m)) :=
 zdr (w:=.str (T (l ++ m))) a b (fun H x y Q r1 r2 q => ⟨_, _, r1.of_str, r2.of_str, by rw [zgi, zgi]; exact hz, by rw [zst]; exact q⟩) fun _ _ _ _ r1 r2 => Rep.str fun c hc => (List.mem_append.mp hc).elim (r1.asc c) (r2.asc c)
theorem zsp {α : Type} {xs : List α} {i : Int} {x : α} (h : atI xs i = some x) : x ∈ xs := by
 unfold atI at h
 cases hx : ixN xs.length i with
 | none => rw [hx] at h; cases h
 | some j => rw [hx] at h; exact List.mem_of_getElem? h
theorem zot {l : List Nat} {i : Int} {c : Nat} (a : EvB K G H₀ L ss ta (.str l)) (b : EvB K G H₀ L ss tb (.int i)) (hz : l.length <= sizeLine) (hc : atI l i = some c) : Ev K G H₀ L ss (tOp rIxS ta tb) (.str [c]) :=
 zdr (w:=.str (T [c])) a b (fun H x y Q r1 r2 q => ⟨_, _, c, r1.of_str, r2.of_int, by rw [zgi]; exact hz, by rw [zhk]; exact hc, q⟩) fun _ _ _ _ r1 r2 => Rep.str fun c' hc' => by
  rw [List.mem_singleton.mp hc']
  exact r1.asc c (zsp hc)
theorem Reps.atI {H : Hp} {ds : List D} {vs : List V} {i : Int} {d : D} (r : Reps K H ds vs) (h : L2.atI ds i = some d) : ∃ v, L2.atI vs i = some v /\ Rep K H d v := by
 unfold L2.atI at h ⊢
 rw [r.length] at h
 cases hx : ixN vs.length i with
 | none => rw [hx] at h; cases h
 | some j => rw [hx] at h; exact r.get' h
theorem zbw {i : Int} (a : EvL K G H₀ L ss ta ds) (b : EvB K G H₀ L ss tb (.int i)) (hc : atI ds i = some d) : Ev K G H₀ L ss (tOp (rIxL K) ta tb) d := fun F H σ Q S q =>
 a F H σ _ S fun p vs F1 H1 e1 sq r1 => b F1 H1 σ _ (S.ext2 e1) fun y F2 H2 e2 r2 => by
  obtain ⟨v, hv, rv⟩ := r1.atI hc
  exact ⟨p, vs, i, v, rfl, r2.of_int, SqL.same e2.hh sq, hv, q _ _ _ (e1.trans e2) (rv.mono e2.gf)⟩
theorem zd3 {i : Int} (a : Ev K G H₀ L ss ta (.tup ds)) (b : EvB K G H₀ L ss tb (.int i)) (hc : atI ds i = some d) : Ev K G H₀ L ss (tOp (rIxT K) ta tb) d := fun F H σ Q S q =>
 a F H σ _ S fun x F1 H1 e1 r1 => b F1 H1 σ _ (S.ext2 e1) fun y F2 H2 e2 r2 => by
  obtain ⟨p, vs, rfl, sq, rs⟩ := r1.of_tup
  obtain ⟨v, hv, rv⟩ := rs.atI hc
  exact ⟨p, vs, i, v, rfl, r2.of_int, SqT.same (e1.fh.trans e2.hh) sq, hv, q _ _ _ (e1.trans e2) (rv.mono e2.gf)⟩
theorem zhl : EvA K G H₀ L ss tNil [] := fun F H σ Q S q => q _ _ _ (Ext.refl S.ext.fh) Reps.nil
theorem zfj {t : TA} (a : EvB K G H₀ L ss ta d) (b : EvA K G H₀ L ss t ds) : EvA K G H₀ L ss (za9 ta t) (d :: ds) := fun F H σ Q S q =>
 a F H σ _ S fun x F1 H1 e1 r1 => b F1 H1 σ _ (S.ext2 e1) fun vs F2 H2 e2 r2 => q _ _ _ (e1.trans e2) (Reps.cons (r1.mono e2.hh) r2)
theorem zan : EvAF K G H₀ L ss tNil [] := fun F H σ Q S q => q _ _ _ (Ext.refl S.ext.fh) Reps.nil
theorem zac {t : TA} (a : Ev K G H₀ L ss ta d) (b : EvAF K G H₀ L ss t ds) : EvAF K G H₀ L ss (za9 ta t) (d :: ds) := fun F H σ Q S q =>
 a F H σ _ S fun x F1 H1 e1 r1 => b F1 H1 σ _ (S.ext2 e1) fun vs F2 H2 e2 r2 => q _ _ _ (e1.trans e2) (Reps.cons (r1.mono e2.gf) r2)
theorem zns {t : TA} (a : EvAF K G H₀ L ss t ds) (hz : ds.length <= sizeLine) : Ev K G H₀ L ss (tTup t) (.tup ds) := fun F H σ Q S q =>
 a F H σ _ S fun vs F1 H1 e1 r1 => ⟨by rw [<- r1.length]; exact hz, fun p hp => q _ _ _ (e1.newF hp) (Rep.tup (SqT.of zah) (r1.mono (Same.upd (e1.fh.free hp))))⟩
theorem zcd {t : TA} (a : EvAF K G H₀ L ss t ds) (hz : ds.length <= sizeLine) : EvO K G H₀ L ss (tLst t) ds := fun F H σ Q S q =>
 a F H σ _ S fun vs F1 H1 e1 r1 => ⟨by rw [<- r1.length]; exact hz, fun p hp => q p vs F1 _ (e1.newO hp) (e1.hh.free hp) (e1.fh.free hp) zah r1⟩
theorem zba {b : Bool} (a : Ev K G H₀ L ss t (.bl b)) : EvT K G H₀ L ss (zur t) b := fun F H σ Q S q => a F H σ _ S fun v F' H' e r => ⟨b, r.of_bl, q _ _ e⟩
theorem zpi {b : Bool} (a : Ev K G H₀ L ss t (.bl b)) : EvT K G H₀ L ss (tB t) b := fun F H σ Q S q => a F H σ _ S fun v F' H' e r => ⟨b, r.of_bl, q _ _ e⟩
theorem zhn {u : TT} {b : Bool} (a : EvT K G H₀ L ss u b) : EvT K G H₀ L ss (tNot u) (!b) := fun F H σ Q S q => a F H σ _ S fun F' H' e => q _ _ e
theorem zkc {u v : TT} {b c : Bool} (a : EvT K G H₀ L ss u b) (h : b = true -> EvT K G H₀ L ss v c) : EvT K G H₀ L ss (tAnd u v) (b && c) := fun F H σ Q S q => a F H σ _ S fun F' H' e => by
 cases b with
 | false => exact iteF (q _ _ e)
 | true => exact iteT (h rfl _ _ _ _ (S.ext2 e) fun F'' H'' e' => q _ _ (e.trans e'))
theorem znf {u v : TT} {b c : Bool} (a : EvT K G H₀ L ss u b) (h : b = false -> EvT K G H₀ L ss v c) : EvT K G H₀ L ss (tOr u v) (b || c) := fun F H σ Q S q => a F H σ _ S fun F' H' e => by
 cases b with
 | true => exact iteT (q _ _ e)
 | false => exact iteF (h rfl _ _ _ _ (S.ext2 e) fun F'' H'' e' => q _ _ (e.trans e'))
end
end L2
namespace L2
open PySem PySem.Spec PyProof.Rows
noncomputable def SpD (K : PySem.W.Frag) (pre : List D -> Prop) (res : List D -> D) : Sp := fun vs H Q _ => ∃ G ds, Same G H /\ Reps K G ds vs /\ pre ds /\ ∀ v G' H', Ext G H G' H' -> Rep K G' (res ds) v -> Q v H'
noncomputable def SpO (K : PySem.W.Frag) (pre : List D -> Prop) (res : List D -> List D) : Sp := fun vs H Q _ => ∃ G ds, Same G H /\ Reps K G ds vs /\ pre ds /\ ∀ p ws G' H', Ext G H G' H' -> H p = none -> G' p = none -> H' p = some (.lst ws) -> Reps K G' (res ds) ws -> Q (.ref p) H'
noncomputable def D.flat : D -> Bool
 | .lst _ => false | .tup _ => false | .dct _ _ => false | .dctT _ _ => false | .ins _ _ _ => false | _ => true
theorem Rep.flat {K : PySem.W.Frag} {H H' : Hp} {d : D} {v : V} (f : d.flat = true) (r : Rep K H d v) : Rep K H' d v := by
 cases d with
 | lst _ => cases f
 | tup _ => cases f
 | dct _ _ => cases f
 | dctT _ _ => cases f
 | ins _ _ _ => cases f
 | non => rw [r.of_non]; exact Rep.non
 | bl b => rw [r.of_bl]; exact Rep.bl
 | int i => rw [r.of_int]; exact Rep.int
 | str l => rw [r.of_str]; exact Rep.str r.asc
section
variable {K : PySem.W.Frag} {G H₀ L : Hp} {ss : List Sl} {t : TA} {ds : List D} {pre : List D -> Prop} {E : XK}
theorem zg6 {res : List D -> D} (a : EvAF K G H₀ L ss t ds) (hp : pre ds) : Ev K G H₀ L ss (zjx (SpD K pre res) [] E t) (res ds) := fun F H σ Q S q =>
 a F H σ _ S fun vs F1 H1 e1 r1 => ⟨F1, ds, e1.fh, by rw [List.append_nil]; exact r1, hp, fun v G' H' e2 r => q _ _ _ (e1.trans e2) r⟩
theorem zeg {res : List D -> List D} (a : EvAF K G H₀ L ss t ds) (hp : pre ds) : EvO K G H₀ L ss (zjx (SpO K pre res) [] E t) (res ds) := fun F H σ Q S q =>
 a F H σ _ S fun vs F1 H1 e1 r1 => ⟨F1, ds, e1.fh, by rw [List.append_nil]; exact r1, hp, fun p ws G' H' e2 h1 h2 h3 r => q _ _ _ _ (e1.trans e2) (e1.hh.free h1) h2 h3 r⟩
end
section
variable (K : PySem.W.Frag) (G H₀ L : Hp)
noncomputable def Nx (P : St -> Hp -> Prop) (ss : List Sl) : Prop := ∀ F H σ, Sat K G H₀ L F H σ ss -> P σ H
noncomputable def Go (E : Ends) (ss : List Sl) (t : TS) : Prop := ∀ F H σ, Sat K G H₀ L F H σ ss -> t E σ H
noncomputable def Tg (g : TG) (d : D) (ss ss' : List Sl) : Prop := ∀ F H σ v (Q : St -> Hp -> Prop), Sat K G H₀ L F H σ ss -> Rep K F d v -> (∀ σ' , Sat K G H₀ L F H σ' ss' -> Q σ' H) -> g v σ H Q
noncomputable def At (I : List Sl -> Prop) : St -> Hp -> Prop := fun σ H => ∃ ss F, Sat K G H₀ L F H σ ss /\ I ss
end
noncomputable def RtD (K : PySem.W.Frag) (G H₀ : Hp) (rt : VK) (d : D) : Prop := ∀ v F H, Ext G H₀ F H -> Rep K F d v -> rt v H
noncomputable def RtO (K : PySem.W.Frag) (G H₀ : Hp) (rt : VK) (ds : List D) : Prop := ∀ p vs F H, Ext G H₀ F H -> H₀ p = none -> F p = none -> H p = some (.lst vs) -> Reps K F ds vs -> rt (.ref p) H
section
variable {K : PySem.W.Frag} {G H₀ L : Hp} {ss ss' : List Sl} {E : Ends} {t u : TS} {te : TE} {d : D} {ds : List D} {P : St -> Hp -> Prop}
theorem zam (h : Go K G H₀ L { E with nx := u E } ss t) : Go K G H₀ L E ss (tSeq t u) := h
theorem zbo {i : Nat} (a : Ev K G H₀ L ss te d) (h : Nx K G H₀ L E.nx (ss.set i (.d d))) : Go K G H₀ L E ss (tAsg te (zd7 i)) := fun F H σ S => a F H σ _ S fun v F' H' e r => h F' H' _ ((S.ext2 e).setD r)
theorem Sat.notin {F H : Hp} {σ : St} {p : Addr} (S : Sat K G H₀ L F H σ ss) (hp : H p = none) (j : Nat) (s : Sl) (h : ss[j]? = some s) : p ∉ s.ads := fun z => (S.ok j s h).live z hp
theorem Sat.newO {F H F' H' : Hp} {σ : St} {p : Addr} {vs : List V} {i : Nat} (S : Sat K G H₀ L F H σ ss) (e : Ext F H F' H') (hp : H p = none) (fp : F' p = none) (hp' : H' p = some (.lst vs)) (r : Reps K F' ds vs) : Sat K G H₀ L F' H' (σ.set i (some (.ref p))) (ss.set i (.o p ds)) :=
 (S.ext2 e).setO ⟨S.ext.hh.free hp, fp, vs, hp', r⟩ fun j s _ h => S.notin hp j s h
theorem zcz {i : Nat} (a : EvO K G H₀ L ss te ds) (h : ∀ p, Nx K G H₀ L E.nx (ss.set i (.o p ds))) : Go K G H₀ L E ss (tAsg te (zd7 i)) := fun F H σ S => a F H σ _ S fun p vs F' H' e hp fp hp' r => h p F' H' _ (S.newO e hp fp hp' r)
theorem zic {c : TT} {b : Bool} (a : EvT K G H₀ L ss c b) (h1 : b = true -> Go K G H₀ L E ss t) (h2 : b = false -> Go K G H₀ L E ss u) : Go K G H₀ L E ss (tIfS c t u) := fun F H σ S => a F H σ _ S fun F' H' e => by
 cases b with
 | true => exact iteT (h1 rfl F' H' σ (S.ext2 e))
 | false => exact iteF (h2 rfl F' H' σ (S.ext2 e))
theorem zdb (h : Nx K G H₀ L E.nx ss) : Go K G H₀ L E ss zum := h
theorem zgn (a : Ev K G H₀ L ss te d) (h : RtD K G H₀ E.rt d) : Go K G H₀ L E ss (tRet te) := fun F H σ S => a F H σ _ S fun v F' H' e r => h v F' H' (S.ext.trans e) r
theorem zj9 (a : EvO K G H₀ L ss te ds) (h : RtO K G H₀ E.rt ds) : Go K G H₀ L E ss (tRet te) := fun F H σ S => a F H σ _ S fun p vs F' H' e hp fp hp' r => h p vs F' H' (S.ext.trans e) (S.ext.hh.free hp) fp hp' r
theorem zn2 {i : Nat} {p : Addr} (hs : ss[i]? = some (.o p ds)) (h : RtO K G H₀ E.rt ds) : Go K G H₀ L E ss (tRet (tVar i)) := fun F H σ S => by
 obtain ⟨e, h0, fp, vs, hp, r⟩ := S.getO hs
 exact ⟨.ref p, e, h p vs F H S.ext h0 fp hp r⟩
theorem zuy {rt : VK} (h : RtD K G H₀ rt (.lst ds)) : RtO K G H₀ rt ds := fun p vs F H e h0 fp hp r => h _ _ _ (e.freeze fp h0 hp) (Rep.lst (SqL.of zah) (r.mono (Same.upd fp)))
theorem zds {i : Nat} {p : Addr} (hs : ss[i]? = some (.o p ds)) (h : Nx K G H₀ L P (ss.set i (.d (.lst ds)))) : Nx K G H₀ L P ss := fun F H σ S => by
 obtain ⟨F', S'⟩ := S.freeze hs
 exact h F' H σ S'
theorem zaz (h : Go K G H₀ L E ss t) : Nx K G H₀ L (t E) ss := h
theorem zqy {I : List Sl -> Prop} (h : I ss) : Nx K G H₀ L (At K G H₀ L I) ss := fun F H σ S => ⟨ss, F, S, h⟩
theorem zm7 (I : List Sl -> Prop) (h1 : ∀ N : St -> Hp -> Prop, (∀ ss, I ss -> Nx K G H₀ L N ss) -> Go K G H₀ L { E with nx := N } ss t) (h2 : ∀ ss, I ss -> Go K G H₀ L E ss u) : Go K G H₀ L E ss (tSeq t u) := h1 _ h2
theorem zbg {i : Nat} : Tg K G H₀ L (zd7 i) d ss (ss.set i (.d d)) := fun F H σ v Q S r q => q _ (S.setD r)
theorem zeh {i : Nat} {p : Addr} {t1 : TE} (hs : ss[i]? = some (.o p ds)) (a : Ev K G H₀ L ss t1 d) (hz : ds.length < sizeLine) (h : Nx K G H₀ L E.nx (ss.set i (.o p (ds ++ [d])))) :
  Go K G H₀ L E ss (zl6 (tBM K "list" zhi (tVar i) (za9 t1 tNil))) := fun F H σ S => by
 obtain ⟨e, h0, fp, vs, hp, r⟩ := S.getO hs
 refine ⟨.ref p, e, .inl ⟨rfl, _, SqL.of hp⟩, a F H σ _ S fun v F' H' e' r' => ?_⟩
 have S' := S.ext2 e'
 obtain ⟨e2, h02, fp2, vs', hp2, r2⟩ := S'.getO hs
 exact ⟨p, vs', v, rfl, rfl, hp2, by rw [<- r2.length]; exact hz, h F' _ σ (S'.write hs (r2.snoc r'))⟩
theorem Rep.itl {F H : Hp} {p : Addr} (h : Same F H) (r : Rep K F (.lst ds) (.ref p)) : ∃ vs, SqL K H p vs /\ Reps K F ds vs := by
 obtain ⟨q, xs, e, sq, rs⟩ := r.of_lst
 cases e
 exact ⟨xs, SqL.same h sq, rs⟩
theorem zfv {tl : TE} {g : TG} {tb : TS} {α : Type} (enc : α -> D) (xs : List α) (I : Nat -> List Sl -> Prop) (a : Ev K G H₀ L ss tl (.lst (xs.map enc))) (h0 : I 0 ss)
  (hs : ∀ L' k x ss, Same L L' -> xs[k]? = some x -> I k ss -> ∃ ss', Tg K G H₀ L' g (enc x) ss ss' /\ ∀ N, (∀ ss, I (k + 1) ss -> Nx K G H₀ L' N ss) -> Go K G H₀ L' { E with nx := N, ct := N, bk := E.nx } ss' tb)
  (hd : ∀ ss, I xs.length ss -> Nx K G H₀ L E.nx ss) : Go K G H₀ L E ss (tFor (zh8 K tl) g tb) := fun F H σ S =>
 a F H σ _ S fun v F1 H1 e1 r1 => by
  obtain ⟨p, vs, rfl, sq, rs⟩ := r1.of_lst
  refine ⟨p, rfl, ⟨vs, SqL.same e1.fh sq⟩, ?_⟩
  refine ⟨fun i m σ' H' => m = xs.length - i /\ i <= xs.length /\ At K G H₀ F1 (I i) σ' H', ⟨_, rfl, Nat.zero_le _, ss, F1, (S.ext2 e1).raise, h0⟩, ?_⟩
  rintro i m σ' H' ⟨rfl, hi, ss1, F2, S2, h2⟩
  have rp : Rep K F2 (.lst (xs.map enc)) (.ref p) := r1.mono S2.fl
  obtain ⟨ws, sq2, rs2⟩ := rp.itl S2.ext.fh
  have hlen : ws.length = xs.length := by rw [<- rs2.length, List.length_map]
  by_cases hlt : i < xs.length
  ·refine .inr ⟨⟨ws, ws[i]'(by lia), sq2, List.getElem?_eq_getElem _⟩, fun σ'' H'' => At K G H₀ F1 (I (i + 1)) σ'' H'', fun σ'' H'' h => ⟨xs.length - (i + 1), by lia, rfl, hlt, h⟩, fun x H'' y => ?_⟩
   obtain ⟨rfl, y⟩ := y
   have hx := y ws sq2
   obtain ⟨dx, hdx, rx⟩ := rs2.get hx
   rw [List.getElem?_map, List.getElem?_eq_getElem hlt] at hdx
   cases hdx
   obtain ⟨ss', tg, go⟩ := hs F1 i _ ss1 (S.fl.trans e1.gf) (List.getElem?_eq_getElem hlt) h2
   exact tg F2 _ σ' x _ S2 rx fun σ3 S3 => go _ (fun ss h => zqy h) F2 _ σ3 S3
  ·have e : i = xs.length := by lia
   subst e
   exact .inl ⟨⟨ws, sq2, by lia⟩, hd ss1 h2 F2 H' σ' (S2.lower (S.fl.trans e1.gf))⟩
theorem zhc {ta : TA} {j : Nat} {tb : TS} {n : Int} (I : Nat -> List Sl -> Prop) (a : EvA K G H₀ L ss ta [.int n]) (hb : -(2 ^ 62) <= n /\ n < 2 ^ 62) (h0 : I 0 ss)
  (hs : ∀ (k : Nat) ss, (k : Int) < n -> I k ss -> ∀ N, (∀ ss, I (k + 1) ss -> Nx K G H₀ L N ss) -> Go K G H₀ L { E with nx := N, ct := N, bk := E.nx } (ss.set j (.d (.int (k : Int)))) tb)
  (hd : ∀ ss, I n.toNat ss -> Nx K G H₀ L E.nx ss) {ti : TI} (hti : ∀ σ H R, (ta σ H fun vs H1 => ∃ m : Int, vs = [.int m] /\ -(2 ^ 62) <= m /\ m < 2 ^ 62 /\ R (Itr 0 m.toNat) H1) -> ti σ H R) : Go K G H₀ L E ss (tFor ti (zd7 j) tb) := fun F H σ S => by
 refine hti σ H _ (a F H σ _ S fun vs F1 H1 e1 r1 => ?_)
 rw [Reps] at r1
 obtain ⟨x, r, rfl, rx, r1⟩ := r1
 rw [Reps] at r1
 subst r1
 rw [rx.of_int]
 refine ⟨n, rfl, hb.1, hb.2, fun i m σ' H' => m = n.toNat - i /\ i <= n.toNat /\ At K G H₀ L (I i) σ' H', ⟨_, rfl, Nat.zero_le _, ss, F1, S.ext2 e1, h0⟩, ?_⟩
 rintro i m σ' H' ⟨rfl, hi, ss1, F2, S2, h2⟩
 by_cases hlt : i < n.toNat
 ·refine .inr ⟨hlt, fun σ'' H'' => At K G H₀ L (I (i + 1)) σ'' H'', fun σ'' H'' h => ⟨n.toNat - (i + 1), by lia, rfl, hlt, h⟩, fun x H'' y => ?_⟩
  obtain ⟨rfl, rfl⟩ := y
  refine hs i ss1 (by omega) h2 _ (fun ss h => zqy h) F2 _ _ ?_
  have e : (0 : Int) + (i : Int) = (i : Int) := by lia
  rw [e]
  exact S2.setD Rep.int
 ·have e : i = n.toNat := by lia
  subst e
  exact .inl ⟨Nat.le_refl _, hd ss1 h2 F2 H' σ' S2⟩
end
end L2
namespace L2
open PySem PySem.Spec PyProof.Rows
mutual
noncomputable def D.toP : D -> PyData
 | .non => .none
 | .bl b => .bool b
 | .int i => .int i
 | .str l => .str (T l)
 | .lst a => .list (D.toPs a)
 | .tup a => .tuple (D.toPs a)
 | .dct _ _ => .none
 | .dctT _ _ => .none
 | .ins _ _ _ => .none
noncomputable def D.toPs : List D -> List PyData
 | [] => []
 | a :: x => a.toP :: D.toPs x
end
mutual
theorem D.toP_depth : ∀ d : D, d.toP.depth = d.dep
 | .non => rfl
 | .bl _ => rfl
 | .int _ => rfl
 | .str _ => rfl
 | .lst a => by simp [D.toP, PyData.depth, D.dep, D.toPs_depth a]
 | .tup a => by simp [D.toP, PyData.depth, D.dep, D.toPs_depth a]
 | .dct _ _ => rfl
 | .dctT _ _ => rfl
 | .ins _ _ _ => rfl
theorem D.toPs_depth : ∀ a : List D, PyData.depthAll (D.toPs a) = D.deps a
 | [] => rfl
 | d :: a => by simp [D.toPs, PyData.depthAll, D.deps, D.toP_depth d, D.toPs_depth a]
end
mutual
theorem D.eqv : ∀ d e : D, d.nb = true -> e.nb = true -> PyData.eqv d.toP e.toP = decide (d = e)
 | .non, e, _, h2 => by cases e <;> simp [D.toP, PyData.eqv, D.nb] at h2 ⊢
 | .bl _, _, h1, _ => by simp [D.nb] at h1
 | .dct _ _, _, h1, _ => by simp [D.nb] at h1
 | .dctT _ _, _, h1, _ => by simp [D.nb] at h1
 | .ins _ _ _, _, h1, _ => by simp [D.nb] at h1
 | .int i, e, _, h2 => by
  cases e <;> simp [D.toP, PyData.eqv, D.nb] at h2 ⊢
  exact Bool.beq_eq_decide_eq _ _
 | .str l, e, _, h2 => by
  cases e <;> simp [D.toP, PyData.eqv, D.nb] at h2 ⊢
  rename_i m
  rw [Bool.eq_iff_iff]; simp [zo0]
 | .lst a, e, h1, h2 => by
  cases e with
  | lst b =>
   simp only [D.nb] at h1 h2
   simp only [D.toP, PyData.eqv, D.lst.injEq]
   exact D.eqvs a b h1 h2
  | _ => simp [D.toP, PyData.eqv, D.nb] at h2 ⊢
 | .tup a, e, h1, h2 => by
  cases e with
  | tup b =>
   simp only [D.nb] at h1 h2
   simp only [D.toP, PyData.eqv, D.tup.injEq]
   exact D.eqvs a b h1 h2
  | _ => simp [D.toP, PyData.eqv, D.nb] at h2 ⊢
theorem D.eqvs : ∀ a b : List D, D.nbs a = true -> D.nbs b = true -> PyData.eqvAll (D.toPs a) (D.toPs b) = decide (a = b)
 | [], b, _, _ => by cases b <;> simp [D.toPs, PyData.eqvAll]
 | d :: a, b, h1, h2 => by
  cases b with
  | nil => simp [D.toPs, PyData.eqvAll]
  | cons e b =>
   simp only [D.nbs, Bool.and_eq_true] at h1 h2
   simp only [D.toPs, PyData.eqvAll, D.eqv d e h1.1 h2.1, D.eqvs a b h1.2 h2.2, List.cons.injEq]
   by_cases x : d = e <;> by_cases y : a = b <;> simp [x, y]
end
section
variable {X : Cx} {pins : List (Addr × Obj)} {σ : St} {H : Hp} {s : Shared}
theorem zsi {l : List Nat} (h : ∀ c ∈ l, c < 128) : PyData.strOk (T l) = true := by
 unfold PyData.strOk T
 simp
 intro c hc
 have := h c hc
 lia
mutual
theorem Inv.reads (I : Inv X pins σ H s) : ∀ {d : D} {v : V} {u : Value}, d.nb = true -> Rep X.K H d v -> RelV v u -> (∃ as, Reads s.heap u d.toP as) /\ d.toP.canLay0 = true
 | .non, _, _, _, r, q => by rw [r.of_non] at q; cases q; exact ⟨⟨_, Reads.none⟩, rfl⟩
 | .bl b, _, _, n, _, _ => by simp [D.nb] at n
 | .dct _ _, _, _, n, _, _ => by simp [D.nb] at n
 | .dctT _ _, _, _, n, _, _ => by simp [D.nb] at n
 | .ins _ _ _, _, _, n, _, _ => by simp [D.nb] at n
 | .int i, _, _, _, r, q => by rw [r.of_int] at q; obtain ⟨t, rfl⟩ := q; exact ⟨⟨_, Reads.int i t⟩, rfl⟩
 | .str l, _, _, _, r, q => by
  have ha := r.asc
  rw [r.of_str] at q; obtain ⟨t, rfl⟩ := q
  exact ⟨⟨_, Reads.str _ t⟩, zsi ha⟩
 | .lst ds, _, _, nn, r, q => by
  obtain ⟨p, xs, rfl, sq, rs⟩ := r.of_lst
  cases q
  obtain ⟨its, rv, ⟨o, n, e, c, _, hd⟩, _⟩ := I.list sq
  obtain ⟨⟨as, ra⟩, hc⟩ := I.readsAll (by simpa [D.nb] using nn) rs rv
  exact ⟨⟨_, Reads.list e c hd (by simpa using ra)⟩, by simpa [D.toP, PyData.canLay0] using hc⟩
 | .tup ds, _, _, nn, r, q => by
  obtain ⟨p, xs, rfl, sq, rs⟩ := r.of_tup
  cases q
  obtain ⟨its, rv, ⟨o, e, c, n, hd⟩, _⟩ := I.tuple sq
  obtain ⟨⟨as, ra⟩, hc⟩ := I.readsAll (by simpa [D.nb] using nn) rs rv
  exact ⟨⟨_, Reads.tuple e c hd (by simpa using ra)⟩, by simpa [D.toP, PyData.canLay0] using hc⟩
theorem Inv.readsAll (I : Inv X pins σ H s) : ∀ {ds : List D} {vs : List V} {us : List Value}, D.nbs ds = true -> Reps X.K H ds vs -> Vals vs us -> (∃ as, ReadsAll s.heap us (D.toPs ds) as) /\ PyData.canLayAll0 (D.toPs ds) = true
 | [], _, _, _, r, q => by
  rw [Reps] at r; subst r
  cases q
  exact ⟨⟨_, ReadsAll.nil⟩, rfl⟩
 | d :: ds, _, _, n, r, q => by
  simp only [D.nbs, Bool.and_eq_true] at n
  rw [Reps] at r
  obtain ⟨x, xs, rfl, r1, r2⟩ := r
  cases q with
  | cons q1 q2 =>
   obtain ⟨⟨as, a⟩, hc⟩ := I.reads n.1 r1 q1
   obtain ⟨⟨bs, b⟩, hc2⟩ := I.readsAll n.2 r2 q2
   exact ⟨⟨_, ReadsAll.cons a b⟩, by simp [D.toPs, PyData.canLayAll0, hc, hc2]⟩
end
end
noncomputable def rNeD (K : PySem.W.Frag) : R2 := fun x y H Q => ∃ d e, Rep K H d x /\ Rep K H e y /\ d.nb = true /\ e.nb = true /\ d.dep <= 60 /\ Q (.bl (!decide (d = e))) H
section
variable {X : Cx}
theorem zrk (hu : X.A.units + 64 < cLine) : OpR X (compareOp .NotEq) (rNeD X.K) := by
 intro pins s σ H x y v u Q I rx ry h
 obtain ⟨d, e, r1, r2, n1, n2, hd, q⟩ := h
 obtain ⟨⟨as, a⟩, c1⟩ := I.reads n1 r1 rx
 obtain ⟨⟨bs, b⟩, c2⟩ := I.reads n2 r2 ry
 have h1 := D.toP_depth d
 refine SeqAt.compareNe_reads a b c1 c2 (by lia) ?_
 rw [D.eqv d e n1 n2]
 exact ⟨.bl _, H, I, rfl, q⟩
theorem zg8 (d : D) (hd : d.nb = true) : ∀ ds : List D, D.nbs ds = true -> ((D.toPs ds).any fun y => PyData.eqv y d.toP) = decide (d ∈ ds)
 | [], _ => by simp [D.toPs]
 | e :: ds, h => by
  simp only [D.nbs, Bool.and_eq_true] at h
  rw [D.toPs, List.any_cons, zg8 d hd ds h.2, D.eqv e d h.1 hd]
  by_cases x : e = d
  ·subst x; simp
  ·have : ¬ d = e := fun z => x z.symm
   simp [x, this]
noncomputable def rInD (K : PySem.W.Frag) (neg : Bool) : R2 := fun x y H Q => ∃ d ds, Rep K H d x /\ (Rep K H (.lst ds) y \/ Rep K H (.tup ds) y) /\ d.nb = true /\ D.nbs ds = true /\ d.dep <= 60 /\ Q (.bl (if neg then !decide (d ∈ ds) else decide (d ∈ ds))) H
theorem zq6 (hu : X.A.units + 64 < cLine) : OpR X (compareOp .In) (rInD X.K false) := by
 intro pins s σ H x y v u Q I rx ry h
 obtain ⟨d, ds, r1, r2, n1, n2, hd, q⟩ := h
 obtain ⟨⟨as, a⟩, c1⟩ := I.reads n1 r1 rx
 have h1 := D.toP_depth d
 have fin : EP X pins σ Q (.bool ((D.toPs ds).any fun y => PyData.eqv y d.toP)) s := by rw [zg8 d n1 ds n2]; exact ⟨.bl _, H, I, rfl, q⟩
 rcases r2 with r2 | r2
 ·obtain ⟨⟨bs, b⟩, c2⟩ := I.reads (by simpa [D.nb] using n2) r2 ry
  rw [D.toP] at b c2
  exact SeqAt.in_list_reads b a (by simpa [PyData.canLay0] using c2) c1 (by lia) fin
 ·obtain ⟨⟨bs, b⟩, c2⟩ := I.reads (by simpa [D.nb] using n2) r2 ry
  rw [D.toP] at b c2
  exact SeqAt.in_tuple_reads b a (by simpa [PyData.canLay0] using c2) c1 (by lia) fin
theorem zoc (hu : X.A.units + 64 < cLine) : OpR X (compareOp .NotIn) (rInD X.K true) := by
 intro pins s σ H x y v u Q I rx ry h
 obtain ⟨d, ds, r1, r2, n1, n2, hd, q⟩ := h
 obtain ⟨⟨as, a⟩, c1⟩ := I.reads n1 r1 rx
 have h1 := D.toP_depth d
 have fin : EP X pins σ Q (.bool (!(D.toPs ds).any fun y => PyData.eqv y d.toP)) s := by rw [zg8 d n1 ds n2]; exact ⟨.bl _, H, I, rfl, q⟩
 rcases r2 with r2 | r2
 ·obtain ⟨⟨bs, b⟩, c2⟩ := I.reads (by simpa [D.nb] using n2) r2 ry
  rw [D.toP] at b c2
  exact SeqAt.notIn_list_reads b a (by simpa [PyData.canLay0] using c2) c1 (by lia) fin
 ·obtain ⟨⟨bs, b⟩, c2⟩ := I.reads (by simpa [D.nb] using n2) r2 ry
  rw [D.toP] at b c2
  exact SeqAt.notIn_tuple_reads b a (by simpa [PyData.canLay0] using c2) c1 (by lia) fin
end
section
variable {K : PySem.W.Frag} {G H₀ L : Hp} {ss : List Sl} {t ta tb : TE} {d d1 d2 : D} {ds es : List D}
theorem zri (a : EvB K G H₀ L ss ta d1) (b : EvB K G H₀ L ss tb d2) (n1 : d1.nb = true) (n2 : d2.nb = true) (hd : d1.dep <= 60) : Ev K G H₀ L ss (tOp (rNeD K) ta tb) (.bl (!decide (d1 = d2))) :=
 zdr (w:=.bl (!decide (d1 = d2))) a b (fun H x y Q r1 r2 q => ⟨d1, d2, r1, r2, n1, n2, hd, q⟩) fun _ _ _ _ _ _ => Rep.bl
theorem zq5 (a : EvB K G H₀ L ss ta d) (b : EvB K G H₀ L ss tb (.lst ds)) (n1 : d.nb = true) (n2 : D.nbs ds = true) (hd : d.dep <= 60) : Ev K G H₀ L ss (tOp (rInD K false) ta tb) (.bl (decide (d ∈ ds))) :=
 zdr (w:=.bl (decide (d ∈ ds))) a b (fun H x y Q r1 r2 q => ⟨d, ds, r1, .inl r2, n1, n2, hd, q⟩) fun _ _ _ _ _ _ => Rep.bl
theorem zn8 (a : EvB K G H₀ L ss ta d) (b : EvB K G H₀ L ss tb (.lst ds)) (n1 : d.nb = true) (n2 : D.nbs ds = true) (hd : d.dep <= 60) : Ev K G H₀ L ss (tOp (rInD K true) ta tb) (.bl (!decide (d ∈ ds))) :=
 zdr (w:=.bl (!decide (d ∈ ds))) a b (fun H x y Q r1 r2 q => ⟨d, ds, r1, .inl r2, n1, n2, hd, q⟩) fun _ _ _ _ _ _ => Rep.bl
end
theorem D.nbs_map {α : Type} {enc : α -> D} (h : ∀ x, (enc x).nb = true) : ∀ xs : List α, D.nbs (xs.map enc) = true
 | [] => rfl
 | x :: xs => by simp [D.nbs, h x, D.nbs_map h xs]
theorem D.deps_map {α : Type} {enc : α -> D} {n : Nat} (h : ∀ x, (enc x).dep <= n) : ∀ xs : List α, D.deps (xs.map enc) <= n
 | [] => Nat.zero_le _
 | x :: xs => by
  have h1 := h x
  have h2 := D.deps_map h xs
  simp only [List.map_cons, D.deps]; lia
theorem D.nb_lst {ds : List D} : (D.lst ds).nb = D.nbs ds := by rw [D.nb]
theorem D.dep_lst {ds : List D} : (D.lst ds).dep = D.deps ds + 1 := by rw [D.dep]
end L2
namespace L2
open PySem PySem.Spec PyProof.Rows
noncomputable def ItOk (K : PySem.W.Frag) (J : It) (F' H' : Hp) (n : Nat) (y : Nat -> D) : Prop := ∀ F2 H2, Same F' F2 -> Same H' H2 -> Same F2 H2 ->
 (∀ i, i < n -> J.go i H2 /\ ∀ x H3, J.yld i H2 x H3 -> ∃ F3, Ext F2 H2 F3 H3 /\ Rep K F3 (y i) x) /\ J.stop n H2
noncomputable def EvI (K : PySem.W.Frag) (G H₀ L : Hp) (ss : List Sl) (wi : TI) (n : Nat) (y : Nat -> D) : Prop := ∀ F H σ R, Sat K G H₀ L F H σ ss -> (∀ F' H' J, Ext F H F' H' -> ItOk K J F' H' n y -> R J H') -> wi σ H R
section
variable {K : PySem.W.Frag} {G H₀ L : Hp} {ss : List Sl}
theorem zlg {tl : TE} {ds : List D} (a : EvL K G H₀ L ss tl ds) : EvI K G H₀ L ss (zh8 K tl) ds.length fun i => ds.getD i .non := fun F H σ R S q =>
 a F H σ _ S fun p vs F' H' e sq r => ⟨p, rfl, ⟨vs, sq⟩, q F' H' _ e fun F2 H2 f1 h1 fh => by
  have sq2 := SqL.same h1 sq
  have hl := r.length
  refine ⟨fun i hi => ⟨⟨vs, vs[i]'(by lia), sq2, List.getElem?_eq_getElem _⟩, fun x H3 y => ?_⟩, ⟨vs, sq2, by lia⟩⟩
  obtain ⟨rfl, y⟩ := y
  obtain ⟨d, hd, rd⟩ := r.get (y vs sq2)
  refine ⟨F2, Ext.refl fh, ?_⟩
  show Rep K F2 (ds.getD i D.non) x
  rw [List.getD_eq_getElem?_getD, hd]
  exact rd.mono f1⟩
noncomputable def lcSl (nt : Nat) (cs : List Nat) (ss : List Sl) : List Sl := List.replicate nt .un ++ cs.map fun i => ss.getD i .un
theorem Sat.lc {F H : Hp} {σ : St} {nt : Nat} {cs : List Nat} (S : Sat K G H₀ L F H σ ss) (hc : cs.Nodup) : Sat K G H₀ L F H (lcS nt cs σ) (lcSl nt cs ss) := by
 have cut : ∀ (i : Nat) s, (lcSl nt cs ss)[i]? = some s -> s = .un \/ ∃ j, nt <= i /\ cs[i - nt]? = some j /\ ss[j]? = some s := by
  intro i s h
  unfold lcSl at h
  by_cases hi : i < nt
  ·rw [List.getElem?_append_left (by simpa using hi), List.getElem?_replicate, if_pos hi] at h
   exact .inl (Option.some.inj h).symm
  ·rw [List.getElem?_append_right (by simpa using hi), List.length_replicate, List.getElem?_map] at h
   cases hj : cs[i - nt]? with
   | none => rw [hj] at h; cases h
   | some j =>
    rw [hj] at h
    have h : ss.getD j .un = s := Option.some.inj h
    rw [List.getD_eq_getElem?_getD] at h
    cases hs : ss[j]? with
    | none => rw [hs] at h; exact .inl h.symm
    | some s' => rw [hs] at h; exact .inr ⟨j, by lia, rfl, by rw [hs]; exact congrArg some h⟩
 have val : ∀ (i j : Nat), nt <= i -> cs[i - nt]? = some j -> (lcS nt cs σ).getD i none = σ.getD j none := by
  intro i j hi hj
  unfold lcS
  rw [List.getD_eq_getElem?_getD, List.getElem?_append_right (by simpa using hi), List.length_replicate, List.getElem?_map, hj]
  simp [List.getD_eq_getElem?_getD]
 refine ⟨S.ext, S.fl, by unfold lcS lcSl; simp, fun i s h => ?_, fun i s h => ?_, fun i j s s' hij h h' p hp => ?_⟩
 ·rcases cut i s h with rfl | ⟨j, hi, hj, hs⟩
  ·trivial
  ·rw [val i j hi hj]; exact S.ok j s hs
 ·rcases cut i s h with rfl | ⟨j, hi, hj, hs⟩
  ·simp [Sl.ads]
  ·exact S.nd j s hs
 ·rcases cut i s h with rfl | ⟨k, hi, hk, hs⟩
  ·simp [Sl.ads] at hp
  ·rcases cut j s' h' with rfl | ⟨m, hj, hm, hs'⟩
   ·simp [Sl.ads]
   ·have : k ≠ m := fun z => by
     subst z
     obtain ⟨l1, e1⟩ := List.getElem?_eq_some_iff.mp hk
     obtain ⟨l2, e2⟩ := List.getElem?_eq_some_iff.mp hm
     have := (List.getElem_inj hc).mp (e1.trans e2.symm)
     lia
    exact S.ne k m s s' this hs hs' p hp
noncomputable def GK (nt : Nat) (g : TG) : Prop := ∀ v σ H (Q Q' : St -> Hp -> Prop), (∀ σ' H', Q σ' H' -> σ'.length = σ.length -> σ'.drop nt = σ.drop nt -> Q' σ' H') -> g v σ H Q -> g v σ H Q'
theorem zc4 {nt i : Nat} (h : i < nt) : GK nt (zd7 i) := fun v σ H Q Q' f q => f _ _ q (by simp) (by rw [List.drop_set_of_lt h])
theorem zj7 {wi : TI} {g : TG} {tt : TT} {te : TE} {nt : Nat} {cs : List Nat} {n : Nat} {y : Nat -> D} (p : Nat -> Bool) (f : Nat -> D) (a : EvI K G H₀ L ss wi n y) (hk : GK nt g) (hc : cs.Nodup) (hz : n < sizeLine)
  (hs : ∀ i, i < n -> ∃ ss', Tg K G H₀ L g (y i) (lcSl nt cs ss) ss' /\ EvT K G H₀ L ss' tt (p i) /\ (p i = true -> Ev K G H₀ L ss' te (f i))) :
  EvO K G H₀ L ss (tLC nt cs wi g tt te) (((List.range n).filter p).map f) := fun F H σ Q S q =>
 a F H σ _ S fun F1 H1 J e1 it => by
  intro l hl
  have S1 := S.ext2 e1
  refine ⟨fun i m H2 => m = n - i /\ i <= n /\ ∃ F2 vs, Ext F1 H1 F2 H2 /\ F2 l = none /\ H2 l = some (.lst vs) /\ Reps K F2 (((List.range i).filter p).map f) vs /\ vs.length <= i,
   ⟨n, by lia, Nat.zero_le _, F1, [], (Ext.refl e1.fh).newO hl, e1.fh.free hl, zah, Reps.nil, Nat.le_refl _⟩, ?_⟩
  rintro i m H2 ⟨rfl, hi, F2, vs, e2, fl, hl2, rs, hvs⟩
  obtain ⟨it1, it2⟩ := it F2 H2 e2.gf e2.hh e2.fh
  by_cases hlt : i < n
  ·obtain ⟨go, yl⟩ := it1 i hlt
   refine .inr ⟨go, fun H' => ∃ F2 vs, Ext F1 H1 F2 H' /\ F2 l = none /\ H' l = some (.lst vs) /\ Reps K F2 (((List.range (i + 1)).filter p).map f) vs /\ vs.length <= i + 1, fun H' h => ⟨n - (i + 1), by omega, rfl, hlt, h⟩, fun x H3 yx => ?_⟩
   obtain ⟨F3, e3, rx⟩ := yl x H3 yx
   obtain ⟨ss', tg, evt, ev⟩ := hs i hlt
   have S3 := ((S1.ext2 e2).ext2 e3).lc (nt:=nt) hc
   have hl3 : H3 l = some (.lst vs) := e3.hh l _ hl2
   have fl3 : F3 l = none := (e3.no l _ hl2).trans fl
   have base := tg F3 H3 (lcS nt cs σ) x (fun σ2 H4 => H4 = H3 /\ Sat K G H₀ L F3 H3 σ2 ss') S3 rx fun σ' S' => ⟨rfl, S'⟩
   have fin : ∀ σ2, Sat K G H₀ L F3 H3 σ2 ss' -> tt σ2 H3 fun b H5 => if b = true then te σ2 H5 fun y H6 => ∃ xs, H6 l = some (.lst xs) /\ xs.length < sizeLine /\ (∃ F2 vs, Ext F1 H1 F2 (upd H6 l (.lst (xs ++ [y]))) /\ F2 l = none /\ (upd H6 l (.lst (xs ++ [y]))) l = some (.lst vs) /\ Reps K F2 (((List.range (i + 1)).filter p).map f) vs /\ vs.length <= i + 1) else ∃ F2 vs, Ext F1 H1 F2 H5 /\ F2 l = none /\ H5 l = some (.lst vs) /\ Reps K F2 (((List.range (i + 1)).filter p).map f) vs /\ vs.length <= i + 1 := fun σ2 S2 => by
    refine evt F3 H3 σ2 _ S2 fun F5 H5 e5 => ?_
    have S5 := S2.ext2 e5
    have hl5 : H5 l = some (.lst vs) := e5.hh l _ hl3
    have fl5 : F5 l = none := (e5.no l _ hl3).trans fl3
    have gf : Same F2 F5 := e3.gf.trans e5.gf
    cases hp : p i with
    | false =>
     refine iteF ⟨F5, vs, (e2.trans e3).trans e5, fl5, hl5, ?_, by lia⟩
     rw [List.range_succ, List.filter_append, List.filter_cons, hp]
     simpa using rs.mono gf
    | true =>
     refine iteT (ev hp F5 H5 σ2 _ S5 fun v F6 H6 e6 rv => ?_)
     have hl6 : H6 l = some (.lst vs) := e6.hh l _ hl5
     have fl6 : F6 l = none := (e6.no l _ hl5).trans fl5
     refine ⟨vs, hl6, by lia, F6, vs ++ [v], (((e2.trans e3).trans e5).trans e6).write fl6 hl, fl6, zah, ?_, by simp; omega⟩
     rw [List.range_succ, List.filter_append, List.filter_cons, hp, if_pos rfl, List.map_append]
     exact (rs.mono (gf.trans e6.gf)).snoc rv
   refine hk x (lcS nt cs σ) H3 _ _ (fun σ2 H4 h l1 d1 => ?_) base
   obtain ⟨rfl, S2⟩ := h
   exact ⟨⟨by rw [l1]; unfold lcS; simp, d1⟩, fin σ2 S2⟩
  ·have e : i = n := by lia
   subst e
   exact .inl ⟨it2, q l vs F2 H2 (e1.trans e2) (e1.hh.free hl) fl hl2 rs⟩
end
end L2
namespace L2
open PySem PySem.W PyProof.Rows
noncomputable def runT {α : Type} (lt : Nat -> Nat -> Bool) : KasT α -> α
 | .ret a => a
 | .ask i j k => runT lt (k (lt i j))
theorem zcu {α β : Type} (lt : Nat -> Nat -> Bool) (f : α -> KasT β) : ∀ t : KasT α, runT lt (t.bind f) = runT lt (f (runT lt t))
 | .ret _ => rfl
 | .ask i j k => zcu lt f (k (lt i j))
section
variable (key : Nat -> Int)
noncomputable def ltK (i j : Nat) : Bool := decide (key i < key j)
noncomputable def kk (p : Array Nat) (i : Nat) : Int := key (p.getD i 0)
noncomputable def Up (p : Array Nat) (n : Nat) : Prop := ∀ i j, i <= j -> j < n -> kk key p i <= kk key p j
noncomputable def Dn (p : Array Nat) (n : Nat) : Prop := ∀ i j, i <= j -> j < n -> kk key p j <= kk key p i
variable {key}
theorem zui (p : Array Nat) : Up key p 1 := fun i j h1 h2 => by
 have : i = j := by lia
 subst this; exact Int.le_refl _
theorem Up.snoc {p : Array Nat} {n : Nat} (h : Up key p n) (h0 : 0 < n) (hn : kk key p (n - 1) <= kk key p n) : Up key p (n + 1) := fun i j h1 h2 => by
 by_cases hj : j < n
 ·exact h i j h1 hj
 ·have : j = n := by lia
  subst this
  by_cases hi : i = j
  ·subst hi; exact Int.le_refl _
  ·exact Int.le_trans (h i (j - 1) (by lia) (by omega)) hn
theorem Dn.snoc {p : Array Nat} {n : Nat} (h : Dn key p n) (h0 : 0 < n) (hn : kk key p n <= kk key p (n - 1)) : Dn key p (n + 1) := fun i j h1 h2 => by
 by_cases hj : j < n
 ·exact h i j h1 hj
 ·have : j = n := by lia
  subst this
  by_cases hi : i = j
  ·subst hi; exact Int.le_refl _
  ·exact Int.le_trans hn (h i (j - 1) (by lia) (by omega))
theorem zjs (p : Array Nat) : ∀ (f n : Nat), 0 < n -> Up key p n -> n <= runT (ltK key) (kas_asc p f n) /\ runT (ltK key) (kas_asc p f n) <= n + f /\ Up key p (runT (ltK key) (kas_asc p f n)) /\
  (runT (ltK key) (kas_asc p f n) < n + f -> kk key p (runT (ltK key) (kas_asc p f n)) < kk key p (runT (ltK key) (kas_asc p f n) - 1))
 | 0, n, h0, h => ⟨Nat.le_refl _, Nat.le_refl _, h, fun z => absurd z (Nat.lt_irrefl _)⟩
 | f + 1, n, h0, h => by
  have e0 : runT (ltK key) (kas_asc p (f + 1) n) = if kk key p n < kk key p (n - 1) then n else runT (ltK key) (kas_asc p f (n + 1)) := by
   show runT (ltK key) (if ltK key (p.getD n 0) (p.getD (n - 1) 0) = true then KasT.ret n else kas_asc p f (n + 1)) = _
   by_cases hc : kk key p n < kk key p (n - 1)
   ·have e : ltK key (p.getD n 0) (p.getD (n - 1) 0) = true := decide_eq_true hc
    rw [e, if_pos rfl, if_pos hc]; rfl
   ·have e : ltK key (p.getD n 0) (p.getD (n - 1) 0) = false := decide_eq_false hc
    rw [e, if_neg Bool.false_ne_true, if_neg hc]
  rw [e0]
  by_cases hc : kk key p n < kk key p (n - 1)
  ·rw [if_pos hc]
   exact ⟨Nat.le_refl _, by lia, h, fun _ => hc⟩
  ·rw [if_neg hc]
   have := zjs p f (n + 1) (by lia) (h.snoc h0 (by lia))
   exact ⟨by lia, by lia, this.2.2.1, fun z => this.2.2.2 (by omega)⟩
theorem zks {p : Array Nat} {i j : Nat} (hj : j <= p.size) (k : Nat) : (kas_rev p i j).getD k 0 = if i <= k /\ k < j then p.getD (i + j - 1 - k) 0 else p.getD k 0 := by
 have h := getElem?_mirror_all (xs:=p) (i:=i) hj k
 unfold kas_rev
 have e : ∀ (q : Array Nat) (m : Nat), q.getD m 0 = (q[m]?).getD 0 := fun q m => by simp [Array.getD_eq_getD_getElem?]
 rw [e, e, e, h]
 split <;> rfl
theorem zcy (p : Array Nat) (i j : Nat) : (kas_rev p i j).size = p.size := mirror_size _ _ _ _
theorem zfl (p : Array Nat) (i j : Nat) : (kas_rev p i j).Perm p := mirror_perm _ _ _ _
theorem zd8 {p : Array Nat} {i j : Nat} (hj : j <= p.size) {c : Int} (hc : ∀ k, i <= k -> k < j -> kk key p k = c) (k : Nat) : kk key (kas_rev p i j) k = kk key p k := by
 unfold kk
 rw [zks hj]
 split
 ·rename_i h
  have h1 := hc (i + j - 1 - k) (by omega) (by omega)
  have h2 := hc k h.1 h.2
  unfold kk at h1 h2
  rw [h1, h2]
 ·rfl
theorem zgs {p : Array Nat} {n : Nat} (hn : n <= p.size) (k : Nat) (hk : k < n) : kk key (kas_rev p 0 n) k = kk key p (n - 1 - k) := by
 unfold kk
 rw [zks hn, if_pos ⟨Nat.zero_le _, hk⟩, show 0 + n - 1 - k = n - 1 - k by lia]
theorem Dn.rev {p : Array Nat} {n : Nat} (h : Dn key p n) (hn : n <= p.size) : Up key (kas_rev p 0 n) n := fun i j h1 h2 => by
 rw [zgs hn i (by lia), zgs hn j h2]
 exact h _ _ (by omega) (by omega)
theorem zfg : ∀ (f : Nat) (p : Array Nat) (n q : Nat), 0 < n -> q < n -> n + f <= p.size -> Dn key p n -> (∀ k, n - 1 - q <= k -> k < n -> kk key p k = kk key p (n - 1)) ->
  ∃ p' n' q', runT (ltK key) (kas_desc f p n q) = (p', n', q') /\ p'.size = p.size /\ p'.Perm p /\ n <= n' /\ n' <= n + f /\ q' < n' /\ Dn key p' n' /\ (∀ k, n' - 1 - q' <= k -> k < n' -> kk key p' k = kk key p' (n' - 1))
 | 0, p, n, q, h0, hq, hs, hd, he => ⟨p, n, q, rfl, rfl, Array.Perm.refl _, Nat.le_refl _, Nat.le_refl _, hq, hd, he⟩
 | f + 1, p, n, q, h0, hq, hs, hd, he => by
  unfold kas_desc
  simp only [runT]
  by_cases hc : kk key p n < kk key p (n - 1)
  ·have e : ltK key (p.getD n 0) (p.getD (n - 1) 0) = true := decide_eq_true hc
   rw [e, if_pos rfl]
   by_cases hq0 : q > 0
   ·rw [if_pos hq0]
    have ks := zd8 (key:=key) (p:=p) (i:=n - (q + 1)) (j:=n) (by lia) (c:=kk key p (n - 1)) (fun k h1 h2 => he k (by lia) h2)
    have hd' : Dn key (kas_rev p (n - (q + 1)) n) (n + 1) := by
     intro i j h1 h2
     rw [ks, ks]
     exact (hd.snoc h0 (Int.le_of_lt hc)) i j h1 h2
    obtain ⟨p', n', q', e1, e2, e3, e4, e5, e6, e7, e8⟩ := zfg f (kas_rev p (n - (q + 1)) n) (n + 1) 0 (by lia) (by lia) (by rw [zcy]; lia) hd' (fun k h1 h2 => by
     have : k = n + 1 - 1 := by lia
     rw [this])
    exact ⟨p', n', q', e1, by rw [e2, zcy], e3.trans (zfl _ _ _), by lia, by lia, e6, e7, e8⟩
   ·rw [if_neg hq0]
    obtain ⟨p', n', q', e1, e2, e3, e4, e5, e6, e7, e8⟩ := zfg f p (n + 1) 0 (by lia) (by lia) (by lia) (hd.snoc h0 (Int.le_of_lt hc)) (fun k h1 h2 => by
     have : k = n + 1 - 1 := by lia
     rw [this])
    exact ⟨p', n', q', e1, e2, e3, by lia, by lia, e6, e7, e8⟩
  ·have e : ltK key (p.getD n 0) (p.getD (n - 1) 0) = false := decide_eq_false hc
   rw [e, if_neg Bool.false_ne_true]
   simp only [runT]
   by_cases hd2 : kk key p (n - 1) < kk key p n
   ·have e2 : ltK key (p.getD (n - 1) 0) (p.getD n 0) = true := decide_eq_true hd2
    rw [e2, if_pos rfl]
    exact ⟨p, n, q, rfl, rfl, Array.Perm.refl _, Nat.le_refl _, by lia, hq, hd, he⟩
   ·have e2 : ltK key (p.getD (n - 1) 0) (p.getD n 0) = false := decide_eq_false hd2
    rw [e2, if_neg Bool.false_ne_true]
    have heq : kk key p n = kk key p (n - 1) := by lia
    obtain ⟨p', n', q', e1, e2, e3, e4, e5, e6, e7, e8⟩ := zfg f p (n + 1) (q + 1) (by lia) (by lia) (by lia) (hd.snoc h0 (by lia)) (fun k h1 h2 => by
     by_cases hk : k = n
     ·subst hk; rfl
     ·rw [he k (by lia) (by lia)]; exact heq.symm)
    exact ⟨p', n', q', e1, e2, e3, by lia, by lia, e6, e7, e8⟩
noncomputable def Good (key : Nat -> Int) (p : Array Nat) (nrem : Nat) (r : Nat × Array Nat) : Prop := 1 <= r.1 /\ r.1 <= nrem /\ r.2.size = p.size /\ r.2.Perm p /\ Up key r.2 r.1
theorem zll {p : Array Nat} {n nrem : Nat} (h0 : 0 < n) (hn : n <= nrem) (hs : nrem <= p.size) (hd : Dn key p n) : Good key p nrem (runT (ltK key) (kas_tail3 n nrem p)) := by
 unfold kas_tail3
 rw [zcu]
 simp only [runT]
 have := zjs (key:=key) (kas_rev p 0 n) (nrem - n) n h0 (hd.rev (by lia))
 refine ⟨?_, ?_, zcy _ _ _, zfl _ _ _, this.2.2.1⟩
 ·show 1 <= runT (ltK key) (kas_asc (kas_rev p 0 n) (nrem - n) n); lia
 ·show runT (ltK key) (kas_asc (kas_rev p 0 n) (nrem - n) n) <= nrem; lia
theorem Good.perm {p q : Array Nat} {nrem : Nat} {r : Nat × Array Nat} (h : Good key p nrem r) (hp : p.Perm q) (hs : p.size = q.size) : Good key q nrem r := ⟨h.1, h.2.1, h.2.2.1.trans hs, h.2.2.2.1.trans hp, h.2.2.2.2⟩
theorem ze6 {p : Array Nat} {n nrem : Nat} (h0 : 0 < n) (hn : n < nrem) (hs : nrem <= p.size) (hd : Dn key p (n + 1)) : Good key p nrem (runT (ltK key) (kas_descPart n nrem p)) := by
 unfold kas_descPart
 rw [zcu]
 obtain ⟨p', n', q', e1, e2, e3, e4, e5, e6, e7, e8⟩ := zfg (key:=key) (nrem - (n + 1)) p (n + 1) 0 (by lia) (by lia) (by lia) hd (fun k h1 h2 => by
  have : k = n + 1 - 1 := by lia
  rw [this])
 rw [e1]
 dsimp only
 by_cases hq : q' > 0
 ·rw [if_pos hq]
  have ks := zd8 (key:=key) (p:=p') (i:=n' - (q' + 1)) (j:=n') (by lia) (c:=kk key p' (n' - 1)) (fun k h1 h2 => e8 k (by lia) h2)
  refine (zll (p:=kas_rev p' (n' - (q' + 1)) n') (by lia) (by omega) (by rw [zcy]; lia) ?_).perm ((zfl _ _ _).trans e3) (by rw [zcy, e2])
  intro i j h1 h2
  rw [ks, ks]; exact e7 i j h1 h2
 ·rw [if_neg hq]
  exact (zll (by lia) (by omega) (by lia) e7).perm e3 e2
theorem znn {p : Array Nat} {nrem : Nat} (h1 : 1 <= nrem) (hs : nrem <= p.size) : Good key p nrem (runT (ltK key) (kas_count nrem p)) := by
 unfold kas_count
 rw [zcu]
 have a := zjs (key:=key) p (nrem - 1) 1 (by lia) (zui p)
 generalize runT (ltK key) (kas_asc p (nrem - 1) 1) = n at a
 obtain ⟨a1, a2, a3, a4⟩ := a
 by_cases hn : n = nrem
 ·subst hn
  rw [if_pos (by simp)]
  exact ⟨a1, Nat.le_refl _, rfl, Array.Perm.refl _, a3⟩
 ·rw [if_neg (by simpa using hn)]
  have hlt : n < nrem := by lia
  have dd := a4 (by lia)
  by_cases h2 : n > 1
  ·rw [if_pos h2]
   simp only [runT]
   by_cases hc : kk key p 0 < kk key p (n - 1)
   ·have e : ltK key (p.getD 0 0) (p.getD (n - 1) 0) = true := decide_eq_true hc
    rw [e, if_pos rfl]
    exact ⟨a1, by show n <= nrem; lia, rfl, Array.Perm.refl _, a3⟩
   ·have e : ltK key (p.getD 0 0) (p.getD (n - 1) 0) = false := decide_eq_false hc
    rw [e, if_neg Bool.false_ne_true]
    have same : ∀ k, 0 <= k -> k < n -> kk key p k = kk key p 0 := fun k _ hk => by
     have := a3 0 k (by omega) hk
     have := a3 k (n - 1) (by lia) (by lia)
     lia
    have ks := zd8 (key:=key) (p:=p) (i:=0) (j:=n) (by lia) same
    refine (ze6 (p:=kas_rev p 0 n) (by lia) hlt (by rw [zcy]; exact hs) ?_).perm (zfl _ _ _) (zcy _ _ _)
    intro i j hi hj
    rw [ks, ks]
    by_cases hjn : j < n
    ·rw [same j (by lia) hjn, same i (by lia) (by lia)]; exact Int.le_refl _
    ·have : j = n := by lia
     subst this
     by_cases hij : i = j
     ·subst hij; exact Int.le_refl _
     ·rw [same i (by lia) (by lia), <- same (j - 1) (by lia) (by lia)]; lia
  ·rw [if_neg h2]
   have : n = 1 := by lia
   subst this
   refine ze6 (by lia) hlt hs ?_
   intro i j hi hj
   by_cases hij : i = j
   ·subst hij; exact Int.le_refl _
   ·have h0 : i = 0 := by lia
    have h1' : j = 1 := by lia
    subst h0 h1'
    have : kk key p 1 < kk key p (1 - 1) := dd
    simpa using Int.le_of_lt this
theorem zfs {p : Array Nat} {k : Nat} (hu : Up key p k) : ∀ (f l r : Nat), l <= r -> r <= k -> r - l <= f -> (∀ i, i < l -> kk key p i <= kk key p k) -> (∀ i, r <= i -> i < k -> kk key p k <= kk key p i) ->
  runT (ltK key) (kas_place p k f l r) <= k /\ (∀ i, i < runT (ltK key) (kas_place p k f l r) -> kk key p i <= kk key p k) /\ (∀ i, runT (ltK key) (kas_place p k f l r) <= i -> i < k -> kk key p k <= kk key p i)
 | 0, l, r, h1, h2, h3, h4, h5 => by
  have : l = r := by lia
  subst this
  exact ⟨by simp [kas_place, runT]; omega, h4, h5⟩
 | f + 1, l, r, h1, h2, h3, h4, h5 => by
  unfold kas_place
  by_cases hlr : l ≥ r
  ·have : l = r := by lia
   subst this
   rw [if_pos hlr]
   exact ⟨h2, h4, h5⟩
  ·rw [if_neg hlr]
   simp only [runT]
   by_cases hc : kk key p k < kk key p ((l + r) / 2)
   ·have e : ltK key (p.getD k 0) (p.getD ((l + r) / 2) 0) = true := decide_eq_true hc
    rw [e, if_pos rfl]
    exact zfs hu f l ((l + r) / 2) (by lia) (by lia) (by omega) h4 (fun i hi hk => Int.le_trans (Int.le_of_lt hc) (hu _ _ hi hk))
   ·have e : ltK key (p.getD k 0) (p.getD ((l + r) / 2) 0) = false := decide_eq_false hc
    rw [e, if_neg Bool.false_ne_true]
    exact zfs hu f ((l + r) / 2 + 1) r (by lia) h2 (by omega) (fun i hi => Int.le_trans (hu i ((l + r) / 2) (by lia) (by lia)) (by lia)) h5
theorem zpq {p : Array Nat} {k d : Nat} (hk : k < p.size) (hd : d <= k) (i : Nat) : (bubble p k d).getD i 0 = if i = k - d then p.getD k 0 else if k - d < i /\ i <= k then p.getD (i - 1) 0 else p.getD i 0 := by
 have h := getElem?_bubble hk d hd i
 have e : ∀ (q : Array Nat) (m : Nat), q.getD m 0 = (q[m]?).getD 0 := fun q m => by simp [Array.getD_eq_getD_getElem?]
 rw [e, e, e, e, h]
 split
 ·rfl
 ·split <;> rfl
theorem zne : ∀ (f : Nat) (p : Array Nat) (k : Nat), k + f <= p.size -> Up key p k -> (runT (ltK key) (kas_bin f p k)).size = p.size /\ (runT (ltK key) (kas_bin f p k)).Perm p /\ Up key (runT (ltK key) (kas_bin f p k)) (k + f)
 | 0, p, k, h, hu => ⟨rfl, Array.Perm.refl _, hu⟩
 | f + 1, p, k, h, hu => by
  unfold kas_bin
  rw [zcu]
  obtain ⟨g1, g2, g3⟩ := zfs hu k 0 k (Nat.zero_le _) (Nat.le_refl _) (by lia) (fun i hi => absurd hi (Nat.not_lt_zero _)) (fun i h1 h2 => by lia)
  generalize runT (ltK key) (kas_place p k k 0 k) = l at g1 g2 g3
  have hb : ∀ i, kk key (bubble p k (k - l)) i = if i = l then kk key p k else if l < i /\ i <= k then kk key p (i - 1) else kk key p i := fun i => by
   unfold kk
   rw [zpq (by lia) (by lia), show k - (k - l) = l by lia]
   split
   ·rfl
   ·split <;> rfl
  have hu' : Up key (bubble p k (k - l)) (k + 1) := by
   intro i j hij hj
   rw [hb, hb]
   by_cases hi1 : i = l
   ·rw [if_pos hi1]
    by_cases hj1 : j = l
    ·rw [if_pos hj1]; exact Int.le_refl _
    ·rw [if_neg hj1, if_pos ⟨by lia, by lia⟩]
     exact g3 (j - 1) (by lia) (by lia)
   ·rw [if_neg hi1]
    by_cases hi2 : l < i /\ i <= k
    ·rw [if_pos hi2]
     rw [if_neg (by lia), if_pos ⟨by lia, by lia⟩]
     exact hu _ _ (by omega) (by lia)
    ·rw [if_neg hi2]
     have hil : i < l := by lia
     by_cases hj1 : j = l
     ·rw [if_pos hj1]; exact g2 i hil
     ·rw [if_neg hj1]
      by_cases hj2 : l < j /\ j <= k
      ·rw [if_pos hj2]; exact hu _ _ (by lia) (by lia)
      ·rw [if_neg hj2]; exact hu _ _ hij (by lia)
  obtain ⟨b1, b2, b3⟩ := zne f (bubble p k (k - l)) (k + 1) (by rw [bubble_size]; lia) hu'
  exact ⟨by rw [b1, bubble_size], b2.trans (bubble_perm _ _ _), by rw [show k + (f + 1) = k + 1 + f by lia]; exact b3⟩
theorem zqv {n : Nat} (h : 1 <= n) : (runT (ltK key) (kas_sort n)).size = n /\ (runT (ltK key) (kas_sort n)).Perm (List.range n).toArray /\ Up key (runT (ltK key) (kas_sort n)) n := by
 unfold kas_sort
 rw [zcu]
 have hsz : (List.toArray (List.range n)).size = n := by simp
 obtain ⟨c1, c2, c3, c4, c5⟩ := znn (key:=key) (p:=List.toArray (List.range n)) h (by rw [hsz]; exact Nat.le_refl _)
 generalize runT (ltK key) (kas_count n (List.toArray (List.range n))) = r at c1 c2 c3 c4 c5
 obtain ⟨m, p⟩ := r
 dsimp only at c1 c2 c3 c4 c5 ⊢
 rw [hsz] at c3
 by_cases hm : m < n
 ·rw [if_pos hm]
  have e : max m 1 = m := by lia
  rw [e]
  obtain ⟨b1, b2, b3⟩ := zne (key:=key) (n - m) p m (by lia) c5
  exact ⟨by rw [b1, c3], b2.trans c4, by rw [show n = m + (n - m) by lia]; rw [show m + (n - m) - m = n - m by lia]; exact b3⟩
 ·rw [if_neg hm]
  have : m = n := by lia
  subst this
  exact ⟨c3, c4, c5⟩
end
end L2
namespace L2
open PySem PySem.W PyProof.Rows
section
variable {prog : Program} {w : World} {A : Around} {E : Value -> Shared -> Prop} {s : Shared}
noncomputable def zdz (h h' : Heap) : Prop := ∀ b o, h.get? b = some o -> h'.get? b = some o
noncomputable def zn0 (prog : Program) (w : World) (A : Around) (s : Shared) (vs : List Value) (Out : Array Value -> Prop) : Prop :=
 ∃ κ, (∀ (Q : SortKind -> Shared -> Prop) (E : Value -> Shared -> Prop), Q κ s -> wpAny (model prog w) A (keyKind' vs.toArray) Q E s) /\
  ∀ (Q : SortSt -> Shared -> Prop) (E : Value -> Shared -> Prop), (∀ st', failedOf st' = none -> (arrOf st').size = vs.length -> Out ((arrOf st').map (·.2)) -> Q st' s) -> wpAny (model prog w) A (sortRuns'.run (SortSt.mk' κ (vs.toArray.zip vs.toArray) #[] 7 none)) (fun r s' => Q r.2 s') E s
theorem zet {a : Addr} {vs : List Value} {n0 : Nat} {P : PySem.Fin -> Shared -> Prop} (Out : Array Value -> Prop) (ho : s.heap.get? a = some (seqObj "list" vs.toArray n0)) (hz : vs.length <= sizeLine)
  (hs : 2 <= vs.length -> ∀ h', (∀ b o, b ≠ a -> s.heap.get? b = some o -> h'.get? b = some o) -> zn0 prog w A { s with heap := h' } vs Out) (h1 : vs.length < 2 -> Out vs.toArray)
  (h : ∀ out c h', (∀ b o, b ≠ a -> s.heap.get? b = some o -> h'.get? b = some o) -> h'.get? a = some (seqObj "list" out c) -> out.size = vs.length -> Out out -> P (.done (.ret .none)) { s with heap := h' }) :
  wpAny (model prog w) A (Builtin.«list.sort» ⟨[.ref a], []⟩) P E s := by
 have alt : a < s.heap.objs.size := Heap.lt_size ho
 rw [list_sort_plain]
 refine wpAny_bind (listItems_at ho rfl ?_)
 refine wpAny_bind (listUpdate_at ho rfl ?_ (by simpa using hz) (Nat.zero_le _))
 generalize hg1 : s.heap.update a (Obj.mapSeq fun _ => (#[] : Array Value)) = g1
 have k1 : ∀ b o, b ≠ a -> s.heap.get? b = some o -> g1.get? b = some o := fun b o hb e => by rw [<- hg1]; exact (Heap.get?_update_other _ _ (Ne.symm hb)).trans e
 obtain ⟨e1, ho1⟩ : ∃ e1, g1.get? a = some (seqObj "list" #[] e1) := by rw [<- hg1]; exact ⟨_, get?_update_seq ho fun _ => #[]⟩
 have sz1 : g1.objs.size = s.heap.objs.size := by rw [<- hg1, Heap.size_update]
 refine wpAny_bind (seqEpoch_at ho1 rfl ?_)
 refine wpAny_bind (wpAny_newTuple ?_ (by show vs.length <= _; exact hz))
 refine wpAny_bind (wpAny_newList ?_ (Nat.zero_le _))
 refine wpAny_holding ?_
 dsimp only
 generalize hg3 : (g1.push { cls := .type "tuple", data := .seq vs.toArray }).push { cls := .type "list", data := .seq #[] } = g3
 have k3 : ∀ b o, g1.get? b = some o -> g3.get? b = some o := fun b o e => by rw [<- hg3]; exact Heap.get?_push_of_some _ (Heap.get?_push_of_some _ e)
 have ho3 := k3 a _ ho1
 have keep : ∀ b o, b ≠ a -> s.heap.get? b = some o -> g3.get? b = some o := fun b o hb e => k3 b o (k1 b o hb e)
 have fin : ∀ (st' : SortSt), failedOf st' = none -> (arrOf st').size = vs.length -> Out ((arrOf st').map (·.2)) -> P (.done (.ret .none)) { s with heap := g3.update a (Obj.mapSeq fun _ => (arrOf st').map (·.2)) } := fun st' hf hsz hO => by
  obtain ⟨c2, hc2⟩ : ∃ c2, (g3.update a (Obj.mapSeq fun _ => (arrOf st').map (·.2))).get? a = some (seqObj "list" ((arrOf st').map (·.2)) c2) := ⟨_, get?_update_seq ho3 fun _ => (arrOf st').map (·.2)⟩
  exact h _ c2 _ (fun b o hb e => (Heap.get?_update_other _ _ (Ne.symm hb)).trans (keep b o hb e)) hc2 (by simpa using hsz) hO
 have hsz : vs.toArray.size = vs.length := by simp
 by_cases h2 : vs.length < 2
 ·rw [if_pos (by omega), if_pos (by omega)]
  refine wpAny_bind (wpAny_pure ?_)
  rw [StateT.run_pure]
  refine wpAny_bind (wpAny_pure ?_)
  have eo : (arrOf (SortSt.mk' general' (vs.toArray.zip vs.toArray) #[] 7 none)).map (·.2) = vs.toArray := by
   show (vs.toArray.zip vs.toArray).map (·.2) = vs.toArray
   apply Array.toList_inj.mp
   rw [Array.toList_map]
   have : (vs.toArray.zip vs.toArray).toList = vs.zip vs := by simp
   rw [this]
   simp [List.map_snd_zip]
  dsimp only
  refine wpAny_bind (seqEpoch_at ho3 rfl ?_)
  refine wpAny_bind (listUpdate_at ho3 rfl ?_ (Nat.zero_le _) (by rw [eo]; simp only [List.size_toArray]; lia))
  simp only [bne_self_eq_false, Bool.false_eq_true, if_false]
  exact wpAny_pure (fin (SortSt.mk' general' (vs.toArray.zip vs.toArray) #[] 7 none) rfl (by show (vs.toArray.zip vs.toArray).size = _; simp) (by rw [eo]; exact h1 h2))
 ·rw [if_neg (by omega), if_neg (by omega)]
  obtain ⟨κ, hk, hr⟩ := hs (by lia) g3 keep
  refine wpAny_bind (hk _ _ ?_)
  refine wpAny_bind (wpAny_mono (hr (fun st' s' => s' = { s with heap := g3 } /\ failedOf st' = none /\ (arrOf st').size = vs.length /\ Out ((arrOf st').map (·.2))) (fun _ _ => False) fun st' hf hsz hO => ⟨rfl, hf, hsz, hO⟩) ?_ fun _ _ x => x.elim)
  rintro ⟨⟨⟩, st'⟩ s' ⟨rfl, hf, hsz, hO⟩
  dsimp only at hf hsz hO ⊢
  refine wpAny_bind (seqEpoch_at ho3 rfl ?_)
  refine wpAny_bind (listUpdate_at ho3 rfl ?_ (Nat.zero_le _) (by simp only [Array.size_map]; lia))
  rw [hf]
  simp only [bne_self_eq_false, Bool.false_eq_true, if_false]
  exact wpAny_pure (fin st' hf hsz hO)
theorem zjp {l : Addr} {vs : List Value} {Q : Value -> Shared -> Prop} (Out : Array Value -> Prop) (hl : s.heap.IsList l vs.toArray) (hz : vs.length <= sizeLine)
  (hs : 2 <= vs.length -> ∀ h', zdz s.heap h' -> zn0 prog w A.in1.in1 { s with heap := h' } vs Out) (h1 : vs.length < 2 -> Out vs.toArray)
  (h : ∀ out c h', zdz s.heap h' -> h'.get? (s.heap.objs.size + 1) = some (seqObj "list" out c) -> out.size = vs.length -> Out out -> Q (.ref (s.heap.objs.size + 1)) { s with heap := h' }) :
  wpAny (model prog w) A (call (.builtin "sorted") [.ref l]) Q E s := by
 refine Calls.call_function_entry kind_sorted plain_sorted entry_sorted (args_sorted1 _) ?_
 unfold Builtin.«sorted»
 refine wpAny_bind (m:=checkCount "sorted" 1 1 _) (wpAny_pure ?_)
 refine wpAny_bind (collect_list hl ?_ hz)
 refine wpAny_bind (wpAny_newList ?_ hz)
 generalize hg1 : (s.heap.push (seqObj "list" #[] 0)).update s.heap.objs.size (Obj.mapSeq (· ++ vs.toArray)) = g1
 have sz1 : g1.objs.size = s.heap.objs.size + 1 := by rw [<- hg1, Heap.size_update, size_push']
 have k1 : zdz s.heap g1 := fun b o e => by
  have hlt := Heap.lt_size e
  rw [<- hg1]
  exact (Heap.get?_update_other _ _ (Nat.ne_of_gt hlt)).trans (Heap.get?_push_of_some _ e)
 dsimp only
 have ho : (g1.push { cls := .type "list", data := .seq vs.toArray }).get? (s.heap.objs.size + 1) = some (seqObj "list" vs.toArray 0) := by rw [<- sz1]; exact Heap.get?_push_size _ rfl
 have k2 : zdz s.heap (g1.push { cls := .type "list", data := .seq vs.toArray }) := fun b o e => Heap.get?_push_of_some _ (k1 b o e)
 rw [sz1]
 have ne : ∀ b o, s.heap.get? b = some o -> b ≠ s.heap.objs.size + 1 := fun b o e => Nat.ne_of_lt (Nat.lt_succ_of_lt (Heap.lt_size e))
 refine wpAny_bind (wpAny_holding (wpAny_call_entry slot_list_sort ⟨_, ho, rfl⟩ entry_list_sort (zet (s:={ s with heap := g1.push { cls := .type "list", data := .seq vs.toArray } }) Out ho hz
  (fun h2 h' k => hs h2 h' fun b o e => k b o (ne b o e) (k2 b o e)) h1 fun out c h' k hc hsz hO => ⟨_, rfl, ?_⟩) (args_list_sort _)))
 exact wpAny_pure ⟨_, rfl, h out c h' (fun b o e => k b o (ne b o e) (k2 b o e)) hc hsz hO⟩
end
end L2
namespace L2
open PySem PySem.W PyProof.Rows
noncomputable def InR {α : Type} (n : Nat) (P : α -> Prop) : KasT α -> Prop
 | .ret a => P a
 | .ask i j k => i < n /\ j < n /\ ∀ b, InR n P (k b)
theorem InR.bind {α β : Type} {n : Nat} {f : α -> KasT β} {P : α -> Prop} {Q : β -> Prop} (hf : ∀ a, P a -> InR n Q (f a)) : ∀ {t : KasT α}, InR n P t -> InR n Q (t.bind f)
 | .ret a, h => hf a h
 | .ask i j k, h => ⟨h.1, h.2.1, fun b => InR.bind hf (h.2.2 b)⟩
theorem zkf {α : Type} {cmp : Nat -> Nat -> (Bool -> Shared -> Prop) -> Shared -> Prop} {lt : Nat -> Nat -> Bool} {Q : α -> Shared -> Prop} {s : Shared} {n : Nat} {P : α -> Prop} (h : ∀ i j C, i < n -> j < n -> C (lt i j) s -> cmp i j C s) : ∀ {t : KasT α}, InR n P t -> Q (runT lt t) s -> t.kasWp cmp Q s
 | .ret _, _, q => q
 | .ask i j k, r, q => h i j _ r.1 r.2.1 (zkf h (r.2.2 _) q)
noncomputable def Ent (n : Nat) (p : Array Nat) : Prop := ∀ i, p.getD i 0 < n
theorem Ent.perm {n : Nat} {p q : Array Nat} (h : Ent n p) (hp : q.Perm p) (hn : 0 < n) : Ent n q := fun i => by
 have e : ∀ (q : Array Nat) (m : Nat), q.getD m 0 = (q[m]?).getD 0 := fun q m => by simp [Array.getD_eq_getD_getElem?]
 rw [e]
 cases hq : q[i]? with
 | none => exact hn
 | some x =>
  have hx : x ∈ q := Array.mem_of_getElem? hq
  have hx2 : x ∈ p := hp.mem_iff.mp hx
  obtain ⟨j, hj, ej⟩ := Array.mem_iff_getElem.mp hx2
  have := h j
  rw [e, Array.getElem?_eq_getElem hj, ej] at this
  exact this
theorem Ent.rev {n : Nat} {p : Array Nat} (h : Ent n p) (hn : 0 < n) (i j : Nat) : Ent n (kas_rev p i j) := h.perm (mirror_perm _ _ _ _) hn
section
variable {n : Nat} (hn : 0 < n)
theorem znz {p : Array Nat} (h : Ent n p) : ∀ f m, InR n (fun _ : Nat => True) (kas_asc p f m)
 | 0, _ => trivial
 | f + 1, m => ⟨h _, h _, fun b => by cases b <;> simp only [if_true, Bool.false_eq_true, if_false]; exact znz h f (m + 1); trivial⟩
include hn in
theorem zhd : ∀ f {p : Array Nat} m q, Ent n p -> InR n (fun r : Array Nat × Nat × Nat => Ent n r.1) (kas_desc f p m q)
 | 0, _, _, _, h => h
 | f + 1, p, m, q, h => ⟨h _, h _, fun b => by
   cases b with
   | true =>
    simp only [if_true]
    split
    ·exact zhd f _ _ (h.rev hn _ _)
    ·exact zhd f _ _ h
   | false =>
    simp only [Bool.false_eq_true, if_false]
    exact ⟨h _, h _, fun c => by
     cases c with
     | true => simp only [if_true]; exact h
     | false => simp only [Bool.false_eq_true, if_false]; exact zhd f _ _ h⟩⟩
include hn in
theorem zlo {p : Array Nat} (h : Ent n p) (m r : Nat) : InR n (fun r : Nat × Array Nat => Ent n r.2) (kas_tail3 m r p) := by
 unfold kas_tail3
 refine InR.bind (P:=fun _ : Nat => True) (fun a _ => ?_) (znz (h.rev hn _ _) _ _)
 exact h.rev hn _ _
include hn in
theorem zf8 {p : Array Nat} (h : Ent n p) (m r : Nat) : InR n (fun r : Nat × Array Nat => Ent n r.2) (kas_descPart m r p) := by
 unfold kas_descPart
 refine InR.bind (fun a ha => ?_) (zhd hn _ _ _ h)
 split
 ·exact zlo hn (ha.rev hn _ _) _ _
 ·exact zlo hn ha _ _
include hn in
theorem zqw {p : Array Nat} (h : Ent n p) (r : Nat) : InR n (fun r : Nat × Array Nat => Ent n r.2) (kas_count r p) := by
 unfold kas_count
 refine InR.bind (fun m _ => ?_) (znz h _ _)
 split
 ·exact h
 ·split
  ·refine ⟨h _, h _, fun b => ?_⟩
   cases b with
   | true => simp only [if_true]; exact h
   | false => simp only [Bool.false_eq_true, if_false]; exact zf8 hn (h.rev hn _ _) _ _
  ·exact zf8 hn h _ _
theorem zlc {p : Array Nat} (h : Ent n p) (k : Nat) : ∀ f l r, InR n (fun _ : Nat => True) (kas_place p k f l r)
 | 0, _, _ => trivial
 | f + 1, l, r => by
  unfold kas_place
  split
  ·trivial
  ·exact ⟨h _, h _, fun b => by cases b <;> simp only [if_true, Bool.false_eq_true, if_false] <;> exact zlc h k f _ _⟩
include hn in
theorem zrf : ∀ f {p : Array Nat} k, Ent n p -> InR n (fun q : Array Nat => Ent n q) (kas_bin f p k)
 | 0, _, _, h => h
 | f + 1, p, k, h => by
  unfold kas_bin
  exact InR.bind (fun l _ => zrf f _ (h.perm (bubble_perm _ _ _) hn)) (zlc h k _ _ _)
include hn in
theorem ztb : InR n (fun q : Array Nat => Ent n q) (kas_sort n) := by
 unfold kas_sort
 have h0 : Ent n (List.toArray (List.range n)) := fun i => by
  have e : ∀ (q : Array Nat) (m : Nat), q.getD m 0 = (q[m]?).getD 0 := fun q m => by simp [Array.getD_eq_getD_getElem?]
  rw [e]
  by_cases hi : i < n
  ·simp [hi]
  ·simp [hi]; exact hn
 refine InR.bind (fun r hr => ?_) (zqw hn h0 n)
 split
 ·exact zrf hn _ _ hr
 ·exact hr
end
section
variable {prog : Program} {w : World} {A : Around} {s : Shared}
noncomputable def OutK (key : Nat -> Int) (vs : List Value) (out : Array Value) : Prop := ∃ p : List Nat, p.Perm (List.range vs.length) /\ out.toList = p.map (fun i => vs.getD i Value.none) /\ p.Pairwise fun i j => key i <= key j
theorem zft {κ : SortKind} {vs : List Value} {key : Nat -> Int} (h2 : 2 <= vs.length) (h64 : vs.length < 64)
  (hk : ∀ (Q : SortKind -> Shared -> Prop) (E : Value -> Shared -> Prop), Q κ s -> wpAny (model prog w) A (keyKind' vs.toArray) Q E s)
  (hlt : ∀ i j (C : Bool -> Shared -> Prop), i < vs.length -> j < vs.length -> C (decide (key i < key j)) s -> wpAny (model prog w) A (keyLt' κ (vs.getD i Value.none) (vs.getD j Value.none)) C (fun _ _ => False) s) :
  zn0 prog w A s vs (OutK key vs) := by
 refine ⟨κ, hk, fun Q E hQ => ?_⟩
 obtain ⟨s1, s2, s3⟩ := zqv (key:=key) (n:=vs.length) (by lia)
 refine kat_run (Q:=fun st' s' => Q st' s') (G:=fun p s' => s' = s /\ p = runT (ltK key) (kas_sort vs.length)) rfl h2 h64 (fun p st' s' hp har hf hG => ?_) (zkf (lt:=ltK key) (fun i j C hi hj hc => hlt i j C hi hj hc) (ztb (n:=vs.length) (by lia)) ⟨rfl, rfl⟩)
 obtain ⟨rfl, rfl⟩ := hG
 have hout := kat_snds rfl har
 refine hQ st' hf (by rw [har, Array.size_map, s1]) ⟨(runT (ltK key) (kas_sort vs.length)).toList, ?_, ?_, ?_⟩
 ·have := s2.toList
  simpa using this
 ·rw [hout]
 ·generalize runT (ltK key) (kas_sort vs.length) = q at s1 s3
  rw [List.pairwise_iff_getElem]
  intro i j hi hj hij
  have h := s3 i j (by lia) (by simpa [s1] using hj)
  unfold kk at h
  have e : ∀ m (hm : m < q.toList.length), q.getD m 0 = q.toList[m] := fun m hm => by
   have hm' : m < q.size := by simpa using hm
   simp [Array.getD, hm']
  rw [e i hi, e j hj] at h
  exact h
end
end L2
namespace L2
open PySem PySem.W PyProof.Rows
noncomputable def D.fo : D -> List Int
 | .str l => l.map Int.ofNat
 | .int i => [i]
 | _ => []
noncomputable def D.ord : D -> List (List Int)
 | .tup ds => ds.map D.fo
 | .lst ds => ds.map D.fo
 | d => [d.fo]
noncomputable def D.leB (a b : D) : Bool := decide (a.ord <= b.ord)
noncomputable def zb9 (ds : List D) : List D := ds.mergeSort D.leB
inductive Ty where | s | i
noncomputable def Ty.ok : Ty -> D -> Bool
 | .s, .str _ => true
 | .i, .int _ => true
 | _, _ => false
noncomputable def shOk : List Ty -> List D -> Bool
 | [], [] => true
 | t :: ts, d :: ds => t.ok d && shOk ts ds
 | _, _ => false
noncomputable def zco (ds : List D) : Prop := (∀ d ∈ ds, Ty.ok .s d = true) \/ (∀ d ∈ ds, Ty.ok .i d = true) \/ ∃ t ts, ∀ d ∈ ds, ∃ es, d = .tup es /\ shOk (t :: ts) es = true
theorem zms {l m : List Nat} (h : l.map Int.ofNat = m.map Int.ofNat) : l = m := by
 induction l generalizing m with
 | nil => cases m with
  | nil => rfl
  | cons _ _ => simp at h
 | cons a l ih => cases m with
  | nil => simp at h
  | cons b m =>
   simp only [List.map_cons, List.cons.injEq, Int.ofNat_eq_natCast] at h
   rw [show a = b by lia, ih h.2]
theorem zqj (l m : List Nat) : l < m ↔ l.map Int.ofNat < m.map Int.ofNat := by
 induction l generalizing m with
 | nil => cases m <;> simp
 | cons a l ih => cases m with
  | nil => simp
  | cons b m =>
   simp only [List.map_cons, List.cons_lt_cons_iff, ih m, Int.ofNat_eq_natCast]
   constructor
   ·rintro (h | ⟨h, x⟩)
    ·exact .inl (by lia)
    ·exact .inr ⟨by lia, x⟩
   ·rintro (h | ⟨h, x⟩)
    ·exact .inl (by lia)
    ·exact .inr ⟨by lia, x⟩
theorem zln {t : Ty} {d e : D} (h1 : t.ok d = true) (h2 : t.ok e = true) (h : d.fo = e.fo) : d = e := by
 cases t <;> cases d <;> simp [Ty.ok] at h1 <;> cases e <;> simp [Ty.ok] at h2
 ·rw [zms h]
 ·simp [D.fo] at h; rw [h]
theorem zn5 : ∀ {ts : List Ty} {ds es : List D}, shOk ts ds = true -> shOk ts es = true -> ds.map D.fo = es.map D.fo -> ds = es
 | [], ds, es, h1, h2, _ => by cases ds <;> cases es <;> simp [shOk] at h1 h2; rfl
 | t :: ts, ds, es, h1, h2, h => by
  cases ds with
  | nil => simp [shOk] at h1
  | cons d ds => cases es with
   | nil => simp [shOk] at h2
   | cons e es =>
    simp only [shOk, Bool.and_eq_true] at h1 h2
    simp only [List.map_cons, List.cons.injEq] at h
    rw [zln h1.1 h2.1 h.1, zn5 h1.2 h2.2 h.2]
theorem zra (x y : List Int) : [x] < [y] ↔ x < y := by simp [List.cons_lt_cons_iff]
theorem zsc {ds : List D} (h : zco ds) {a b : D} (ha : a ∈ ds) (hb : b ∈ ds) (e : a.ord = b.ord) : a = b := by
 rcases h with h | h | ⟨t, ts, h⟩
 ·have h1 := h a ha
  have h2 := h b hb
  cases a <;> simp [Ty.ok] at h1
  cases b <;> simp [Ty.ok] at h2
  simp only [D.ord, List.cons.injEq, and_true] at e
  exact zln (t:=.s) rfl rfl e
 ·have h1 := h a ha
  have h2 := h b hb
  cases a <;> simp [Ty.ok] at h1
  cases b <;> simp [Ty.ok] at h2
  simp only [D.ord, List.cons.injEq, and_true] at e
  exact zln (t:=.i) rfl rfl e
 ·obtain ⟨es, rfl, h1⟩ := h a ha
  obtain ⟨fs, rfl, h2⟩ := h b hb
  simp only [D.ord] at e
  rw [zn5 h1 h2 e]
theorem zn6 (a b c : D) (h1 : a.leB b = true) (h2 : b.leB c = true) : a.leB c = true := decide_eq_true (List.le_trans (of_decide_eq_true h1) (of_decide_eq_true h2))
theorem zpf (a b : D) : (a.leB b || b.leB a) = true := by
 rcases List.le_total a.ord b.ord with h | h
 ·simp [D.leB, h]
 ·simp [D.leB, h]
theorem zbl (ds : List D) : (zb9 ds).Perm ds := List.mergeSort_perm _ _
theorem zdk (ds : List D) : (zb9 ds).Pairwise fun a b => a.leB b = true := List.pairwise_mergeSort zn6 zpf ds
theorem zeo {ds es : List D} (h : zco ds) (hp : es.Perm ds) (hs : es.Pairwise fun a b => a.leB b = true) : es = zb9 ds := by
 refine List.Perm.eq_of_pairwise (le:=fun a b => a.leB b = true) (fun a b ha hb h1 h2 => ?_) hs (zdk ds) (hp.trans (zbl ds).symm)
 exact zsc h (hp.mem_iff.mp ha) ((zbl ds).mem_iff.mp hb) (List.le_antisymm (of_decide_eq_true h1) (of_decide_eq_true h2))
noncomputable def rk (ds : List D) (i : Nat) : Int := ((ds.filter fun d => decide (d.ord < (ds.getD i .non).ord)).length : Nat)
theorem zc3 {α : Type} {p q : α -> Bool} (h : ∀ x, p x = true -> q x = true) : ∀ l : List α, (l.filter p).length <= (l.filter q).length
 | [] => Nat.le_refl _
 | x :: l => by
  have ih := zc3 h l
  simp only [List.filter_cons]
  cases hp : p x with
  | false =>
   cases hq : q x with
   | false => simpa using ih
   | true => simp; lia
  | true => rw [h x hp]; simp; omega
theorem zeb {α : Type} {p q : α -> Bool} (h : ∀ x, p x = true -> q x = true) {y : α} (hy : q y = true) (hn : p y = false) : ∀ l : List α, y ∈ l -> (l.filter p).length < (l.filter q).length
 | [], hm => by simp at hm
 | x :: l, hm => by
  have le := zc3 h l
  simp only [List.filter_cons]
  rcases List.mem_cons.mp hm with rfl | hm
  ·rw [hy, hn]; simp; lia
  ·have ih := zeb h hy hn l hm
   cases hp : p x with
   | false =>
    cases hq : q x with
    | false => simpa using ih
    | true => simp; lia
   | true => rw [h x hp]; simp; omega
theorem zpn {ds : List D} {i j : Nat} (hi : i < ds.length) : decide (rk ds i < rk ds j) = decide ((ds.getD i .non).ord < (ds.getD j .non).ord) := by
 have hm : ds.getD i .non ∈ ds := by rw [List.getD_eq_getElem?_getD, List.getElem?_eq_getElem hi]; exact List.getElem_mem _
 unfold rk
 generalize ds.getD i .non = a at hm
 generalize ds.getD j .non = b
 by_cases h : a.ord < b.ord
 ·rw [decide_eq_true h]
  refine decide_eq_true ?_
  have := zeb (p:=fun d : D => decide (d.ord < a.ord)) (q:=fun d : D => decide (d.ord < b.ord)) (fun x hx => decide_eq_true (List.lt_trans (of_decide_eq_true hx) h)) (y:=a) (decide_eq_true h) (decide_eq_false (List.lt_irrefl _)) ds hm
  lia
 ·rw [decide_eq_false h]
  refine decide_eq_false ?_
  have := zc3 (p:=fun d : D => decide (d.ord < b.ord)) (q:=fun d : D => decide (d.ord < a.ord)) (fun x hx => by
   have hx := of_decide_eq_true hx
   refine decide_eq_true ?_
   by_cases hxa : x.ord < a.ord
   ·exact hxa
   ·exact absurd hx (List.not_lt.mpr (List.le_trans (List.not_lt.mp h) (List.not_lt.mp hxa)))) ds
  lia
theorem zs8 {ds : List D} {i j : Nat} (hi : i < ds.length) (hj : j < ds.length) (h : rk ds i <= rk ds j) : (ds.getD i .non).leB (ds.getD j .non) = true := by
 have := zpn (ds:=ds) (i:=j) (j:=i) hj
 rw [decide_eq_false (by lia)] at this
 exact decide_eq_true (List.not_lt.mp (of_decide_eq_false this.symm))
section
variable {prog : Program} {w : World} {A : Around} {E : Value -> Shared -> Prop} {s : Shared}
noncomputable def FV : D -> Value -> Prop
 | .str l, u => ∃ t, u = .str (T l) t
 | .int i, u => ∃ t, u = .int i t
 | _, _ => False
theorem zsf {t : Ty} {d e : D} {u v : Value} (h1 : t.ok d = true) (h2 : t.ok e = true) (ru : FV d u) (rv : FV e v) {Q : Bool -> Shared -> Prop} (q : Q (decide (d = e)) s) : wpAny (model prog w) A (eqBool u v) Q E s := by
 cases t <;> cases d <;> simp [Ty.ok] at h1 <;> cases e <;> simp [Ty.ok] at h2
 ·obtain ⟨t, rfl⟩ := ru
  obtain ⟨t', rfl⟩ := rv
  refine SeqAt.EqAt.str_str _ _ _ _ prog w E Q ?_
  rename_i l m
  have : (T l == T m) = decide (D.str l = D.str m) := by
   rw [Bool.eq_iff_iff]; simp [zo0]
  rw [this]; exact q
 ·obtain ⟨t, rfl⟩ := ru
  obtain ⟨t', rfl⟩ := rv
  refine SeqAt.EqAt.int_int _ _ _ _ prog w E Q ?_
  rename_i i j
  have : (i == j) = decide (D.int i = D.int j) := by
   rw [Bool.eq_iff_iff]; simp
  rw [this]; exact q
theorem zjz {t : Ty} {d e : D} {u v : Value} (h1 : t.ok d = true) (h2 : t.ok e = true) (ru : FV d u) (rv : FV e v) (f : Bool) {Q : Bool -> Shared -> Prop} (q : Q (decide (d.fo < e.fo)) s) : wpAny (model prog w) A (oneLt' f u v) Q E s := by
 cases t <;> cases d <;> simp [Ty.ok] at h1 <;> cases e <;> simp [Ty.ok] at h2
 ·obtain ⟨t, rfl⟩ := ru
  obtain ⟨t', rfl⟩ := rv
  rename_i l m
  have ee : decide ((T l).cps.toList < (T m).cps.toList) = decide ((D.str l).fo < (D.str m).fo) := by
   rw [zhk, zhk, Bool.eq_iff_iff, decide_eq_true_eq, decide_eq_true_eq]
   exact zqj l m
  cases f with
  | true => exact oneLt_str (by rw [ee]; exact q)
  | false => exact kat_one _ _ (lt_str (by show Q _ _; rw [ee]; exact q))
 ·obtain ⟨t, rfl⟩ := ru
  obtain ⟨t', rfl⟩ := rv
  rename_i i j
  have ee : decide (i < j) = decide ((D.int i).fo < (D.int j).fo) := by
   rw [Bool.eq_iff_iff]
   simp [D.fo, List.cons_lt_cons_iff]
  cases f with
  | true => exact oneLt_int (by rw [ee]; exact q)
  | false => exact kat_one _ _ (lt_int (by show Q _ _; rw [ee]; exact q))
inductive FVs : List D -> List Value -> Prop
 | nil : FVs [] []
 | cons {d ds u us} : FV d u -> FVs ds us -> FVs (d :: ds) (u :: us)
theorem zk2 {b : Bool} {Q : Bool -> Shared -> Prop} : ∀ {ts : List Ty} {ds es : List D} {us vs : List Value} (i : Nat), shOk ts ds = true -> shOk ts es = true -> FVs ds us -> FVs es vs -> Q (decide (ds.map D.fo < es.map D.fo)) s -> KatLex prog w A b false Q (us.zip vs) i s
 | [], ds, es, _, _, i, h1, h2, r1, r2, q => by
  cases ds <;> cases es <;> simp [shOk] at h1 h2
  cases r1; cases r2
  exact kat_nil (by simpa using q)
 | t :: ts, ds, es, _, _, i, h1, h2, r1, r2, q => by
  cases r1 with
  | nil => simp [shOk] at h1
  | cons a1 a2 =>
   cases r2 with
   | nil => simp [shOk] at h2
   | cons b1 b2 =>
    rename_i d ds u us e es v vs
    simp only [shOk, Bool.and_eq_true] at h1 h2
    rw [List.zip_cons_cons]
    refine kat_cons (zsf h1.1 h2.1 a1 b1 ?_)
    by_cases hde : d = e
    ·subst hde
     rw [decide_eq_true rfl]
     refine kat_yes (zk2 (i + 1) h1.2 h2.2 a2 b2 ?_)
     have : decide (ds.map D.fo < es.map D.fo) = decide ((d :: ds).map D.fo < (d :: es).map D.fo) := by
      rw [Bool.eq_iff_iff]
      simp only [decide_eq_true_eq, List.map_cons, List.cons_lt_cons_iff]
      exact ⟨fun h => .inr ⟨trivial, h⟩, fun h => h.elim (fun z => absurd z (List.lt_irrefl _)) fun z => z.2⟩
     rw [this]; exact q
    ·rw [decide_eq_false hde]
     refine kat_no (zjz h1.1 h2.1 a1 b1 _ ?_)
     have hf : ¬ d.fo = e.fo := fun z => hde (zln h1.1 h2.1 z)
     have : decide (d.fo < e.fo) = decide ((d :: ds).map D.fo < (e :: es).map D.fo) := by
      rw [Bool.eq_iff_iff]
      simp only [decide_eq_true_eq, List.map_cons, List.cons_lt_cons_iff]
      exact ⟨fun h => .inl h, fun h => h.elim id fun z => absurd z.1 hf⟩
     rw [this]; exact q
end
end L2
set_option maxHeartbeats 1000000
namespace L2
open PySem PySem.W PyProof.Rows
end L2
namespace L2
open PySem PySem.W PyProof.Rows
structure MI (R : Nat -> Nat -> Prop) (ua ub o : List Nat) (i j : Nat) : Prop where
 hi : i <= ua.length
 hj : j <= ub.length
 pw : o.Pairwise R
 pa : ∀ x ∈ o, ∀ y ∈ ua.drop i, R x y
 pb : ∀ x ∈ o, ∀ y ∈ ub.drop j, R x y
 pm : o.Perm (ua.take i ++ ub.take j)
end L2
set_option maxHeartbeats 2000000
namespace L2
open PySem PySem.W PyProof.Rows
end L2
namespace L2
open PySem PySem.W PyProof.Rows
end L2
namespace L2
open PySem PySem.W PyProof.Rows
end L2
namespace L2
open PySem PySem.W PyProof.Rows
end L2
namespace L2
open PySem PySem.W PyProof.Rows
end L2
set_option maxHeartbeats 4000000
namespace L2
open PySem PySem.W PyProof.Rows
theorem Vals.pick {xs : List V} {us : List Value} (r : Vals xs us) : ∀ p : List Nat, (∀ i ∈ p, i < xs.length) -> Vals (p.map fun i => xs.getD i .non) (p.map fun i => us.getD i Value.none)
 | [], _ => .nil
 | i :: p, h => by
  have hi := h i List.mem_cons_self
  obtain ⟨u, hu, ru⟩ := r.get (List.getElem?_eq_getElem hi)
  refine .cons ?_ (Vals.pick r p fun j hj => h j (List.mem_cons_of_mem _ hj))
  show RelV (xs.getD i .non) (us.getD i Value.none)
  rw [List.getD_eq_getElem?_getD, List.getElem?_eq_getElem hi, List.getD_eq_getElem?_getD, hu]
  exact ru
theorem Reps.pick {K : PySem.W.Frag} {H : Hp} {ds : List D} {xs : List V} (r : Reps K H ds xs) : ∀ p : List Nat, (∀ i ∈ p, i < ds.length) -> Reps K H (p.map fun i => ds.getD i .non) (p.map fun i => xs.getD i .non)
 | [], _ => Reps.nil
 | i :: p, h => by
  have hi := h i List.mem_cons_self
  obtain ⟨u, hu, ru⟩ := r.get' (List.getElem?_eq_getElem hi)
  refine Reps.cons ?_ (Reps.pick r p fun j hj => h j (List.mem_cons_of_mem _ hj))
  show Rep K H (ds.getD i .non) (xs.getD i .non)
  rw [List.getD_eq_getElem?_getD, List.getElem?_eq_getElem hi, List.getD_eq_getElem?_getD, hu]
  exact ru
section
variable {X : Cx} {pins : List (Addr × Obj)} {σ : St} {H : Hp} {s : Shared}
theorem FV.of {t : Ty} {d : D} {x : V} {u : Value} (ht : t.ok d = true) (r : Rep X.K H d x) (q : RelV x u) : FV d u := by
 cases t <;> cases d <;> simp [Ty.ok] at ht
 ·rw [r.of_str] at q; exact q
 ·rw [r.of_int] at q; exact q
theorem FVs.of : ∀ {ts : List Ty} {ds : List D} {xs : List V} {us : List Value}, shOk ts ds = true -> Reps X.K H ds xs -> Vals xs us -> FVs ds us
 | [], ds, _, _, ht, r, q => by
  cases ds <;> simp [shOk] at ht
  rw [Reps] at r; subst r; cases q; exact .nil
 | t :: ts, ds, _, _, ht, r, q => by
  cases ds with
  | nil => simp [shOk] at ht
  | cons d ds =>
   simp only [shOk, Bool.and_eq_true] at ht
   rw [Reps] at r
   obtain ⟨x, xs, rfl, r1, r2⟩ := r
   cases q with
   | cons q1 q2 => exact .cons (FV.of ht.1 r1 q1) (FVs.of ht.2 r2 q2)
noncomputable def TV (h : Heap) (es : List D) (u : Value) : Prop := ∃ a o its n, u = .ref a /\ h.get? a = some o /\ o.cls = .type "tuple" /\ o.data = .seq its n /\ FVs es its.toList
theorem Inv.tv (I : Inv X pins σ H s) {ts : List Ty} {es : List D} {x : V} {u : Value} (ht : shOk ts es = true) (r : Rep X.K H (.tup es) x) (q : RelV x u) : TV s.heap es u := by
 obtain ⟨p, xs, rfl, sq, rs⟩ := r.of_tup
 cases q
 obtain ⟨its, rv, ⟨o, e, c, n, hd⟩, _⟩ := I.tuple sq
 exact ⟨p, o, its.toArray, n, rfl, e, c, hd, by simpa using FVs.of ht rs rv⟩
theorem zht {ds : List D} {xs : List V} {us : List Value} (rs : Reps X.K H ds xs) (rv : Vals xs us) {i : Nat} (hi : i < us.length) : ∃ x, Rep X.K H (ds.getD i .non) x /\ RelV x (us.getD i Value.none) /\ ds.getD i .non ∈ ds := by
 have l1 := rs.length
 have l2 := rv.length
 obtain ⟨x, hx, r⟩ := rs.get' (List.getElem?_eq_getElem (show i < ds.length by lia))
 obtain ⟨u, hu, ru⟩ := rv.get hx
 refine ⟨x, ?_, ?_, ?_⟩
 ·rw [List.getD_eq_getElem?_getD, List.getElem?_eq_getElem (show i < ds.length by lia)]; exact r
 ·rw [List.getD_eq_getElem?_getD, hu]; exact ru
 ·rw [List.getD_eq_getElem?_getD, List.getElem?_eq_getElem (show i < ds.length by lia)]; exact List.getElem_mem _
theorem zhj {us : List Value} {v : Value} (h : v ∈ us) : ∃ i, i < us.length /\ v = us.getD i Value.none := by
 obtain ⟨i, hi, e⟩ := List.getElem_of_mem h
 exact ⟨i, hi, by rw [List.getD_eq_getElem?_getD, List.getElem?_eq_getElem hi]; exact e.symm⟩
noncomputable def Ty.tv : Ty -> Value
 | .s => .type "str"
 | .i => .type "int"
noncomputable def zrz (prog : Program) (w : World) (A : Around) (s : Shared) (vs : List Value) (key : Nat -> Int) : Prop :=
 ∃ κ, (∀ (Q : SortKind -> Shared -> Prop) (E : Value -> Shared -> Prop), Q κ s -> wpAny (model prog w) A (keyKind' vs.toArray) Q E s) /\
  ∀ i j (C : Bool -> Shared -> Prop), i < vs.length -> j < vs.length -> C (decide (key i < key j)) s -> wpAny (model prog w) A (keyLt' κ (vs.getD i Value.none) (vs.getD j Value.none)) C (fun _ _ => False) s
theorem zm1 {h' : Heap} {ds : List D} {xs : List V} {us : List Value} {A' : Around} (I : Inv X pins σ H s) (rs : Reps X.K H ds xs) (rv : Vals xs us) (hal : zco ds) (h2 : 2 <= us.length) (k : zdz s.heap h') :
  zrz X.prog X.w A' { s with heap := h' } us (rk ds) := by
 have l1 := rs.length
 have l2 := rv.length
 have flat : ∀ (t : Ty) (T0 : Value), (∀ d u, t.ok d = true -> FV d u -> typeOf u = pure T0) -> (T0 != Value.type "tuple") = true -> (T0 == T0) = true -> (∀ d ∈ ds, t.ok d = true) -> zrz X.prog X.w A' { s with heap := h' } us (rk ds) := fun t T0 hty hT1 hT2 ht => by
  have fv : ∀ i, i < us.length -> FV (ds.getD i .non) (us.getD i Value.none) /\ t.ok (ds.getD i .non) = true := fun i hi => by
   obtain ⟨x, r, q, hm⟩ := zht rs rv hi
   exact ⟨FV.of (ht _ hm) r q, ht _ hm⟩
  refine ⟨oneType', fun Q E q => kas_kind h2 (T:=T0) (fun v hv => ?_) hT1 hT2 q, fun i j C hi hj hC => ?_⟩
  ·obtain ⟨i, hi, rfl⟩ := zhj hv
   obtain ⟨f, o⟩ := fv i hi
   rw [hty _ _ o f]
   exact .now
  ·obtain ⟨f1, o1⟩ := fv i hi
   obtain ⟨f2, o2⟩ := fv j hj
   rw [keyLt'_oneType]
   refine zjz o1 o2 f1 f2 true ?_
   rw [zpn (by lia)] at hC
   have e : ∀ d : D, t.ok d = true -> d.ord = [d.fo] := fun d hd => by cases t <;> cases d <;> simp [Ty.ok] at hd <;> rfl
   rw [e _ o1, e _ o2] at hC
   have : decide ((ds.getD i .non).fo < (ds.getD j .non).fo) = decide ([(ds.getD i .non).fo] < [(ds.getD j .non).fo]) := by
    rw [Bool.eq_iff_iff, decide_eq_true_eq, decide_eq_true_eq]; exact (zra _ _).symm
   rw [this]; exact hC
 rcases hal with ht | ht | ⟨t, ts, ht⟩
 ·exact flat .s (.type "str") (fun d u hd f => by cases d <;> simp [Ty.ok] at hd; obtain ⟨t, rfl⟩ := f; rfl) (by decide) (by decide) ht
 ·exact flat .i (.type "int") (fun d u hd f => by cases d <;> simp [Ty.ok] at hd; obtain ⟨t, rfl⟩ := f; rfl) (by decide) (by decide) ht
 ·have tv : ∀ i, i < us.length -> ∃ es, ds.getD i .non = .tup es /\ shOk (t :: ts) es = true /\ TV h' es (us.getD i Value.none) := fun i hi => by
   obtain ⟨x, r, q, hm⟩ := zht rs rv hi
   obtain ⟨es, e, ho⟩ := ht _ hm
   rw [e] at r
   obtain ⟨a, o, its, n, eu, ho', hc, hd, fv⟩ := I.tv ho r q
   exact ⟨es, e, ho, a, o, its, n, eu, k a o ho', hc, hd, fv⟩
  obtain ⟨T0, hT0, hb, hbb⟩ : ∃ T0 : Value, (T0 = t.tv) /\ (T0 != Value.type "tuple") = true /\ (T0 == T0) = true := ⟨t.tv, rfl, by cases t <;> decide, by cases t <;> decide⟩
  have hfs : ∀ (l : List Value), (∀ v ∈ l, ∃ es, shOk (t :: ts) es = true /\ TV h' es v) -> ∃ fs, KatTups h' l fs /\ fs.length = l.length /\ ∀ f ∈ fs, typeOf f = pure T0 := by
   intro l
   induction l with
   | nil => intro _; exact ⟨[], KatTups.nil, rfl, by simp⟩
   | cons v l ih =>
    intro h
    obtain ⟨fs, h1, h2, h3⟩ := ih fun u hu => h u (List.mem_cons_of_mem _ hu)
    obtain ⟨es, ho, a, o, its, n, rfl, hg, hc, hd, fv⟩ := h v List.mem_cons_self
    cases es with
    | nil => simp [shOk] at ho
    | cons d es =>
     simp only [shOk, Bool.and_eq_true] at ho
     cases hits : its.toList with
     | nil => rw [hits] at fv; cases fv
     | cons f fr =>
      rw [hits] at fv
      cases fv with
      | cons fd _ =>
       have h0 : its[0]? = some f := by
        have : its.toList[0]? = some f := by rw [hits]; rfl
        simpa using this
       refine ⟨f :: fs, KatTups.cons hg hc hd h0 h1, by simp [h2], fun g hgm => ?_⟩
       rcases List.mem_cons.mp hgm with rfl | hgm
       ·cases t <;> cases d <;> simp [Ty.ok] at ho
        ·obtain ⟨t', rfl⟩ := fd; rw [hT0]; rfl
        ·obtain ⟨t', rfl⟩ := fd; rw [hT0]; rfl
       ·exact h3 g hgm
  obtain ⟨fs, hk1, hk2, hk3⟩ := hfs us fun v hv => by
   obtain ⟨i, hi, rfl⟩ := zhj hv
   obtain ⟨es, _, ho, tvv⟩ := tv i hi
   exact ⟨es, ho, tvv⟩
  refine ⟨tuples' (T0 != Value.type "tuple"), fun Q E q => kat_kind (s:={ s with heap := h' }) (T:=T0) hk1 (by lia) (fun v hv => ?_) hbb q, fun i j C hi hj hC => ?_⟩
  ·rw [hk3 v hv]; exact .now
  ·obtain ⟨es, e1, o1, a, o, its, n, eu, hg, hc, hd, fv⟩ := tv i hi
   obtain ⟨es', e1', o1', a', o', its', n', eu', hg', hc', hd', fv'⟩ := tv j hj
   rw [eu, eu']
   rw [zpn (by lia), e1, e1'] at hC
   have sz : ∀ {ts : List Ty} {es : List D} {us : List Value}, shOk ts es = true -> FVs es us -> us.length = ts.length := by
    intro ts
    induction ts with
    | nil => intro es us h f; cases f with
     | nil => rfl
     | cons _ _ => simp [shOk] at h
    | cons t ts ih => intro es us h f; cases f with
     | nil => simp [shOk] at h
     | cons _ f => simp only [shOk, Bool.and_eq_true] at h; simp [ih h.2 f]
   have z1 := sz o1 fv
   have z2 := sz o1' fv'
   refine kat_lt (s:={ s with heap := h' }) hg hd hg' hd' ?_
   rw [decide_eq_false (by simp at z1 z2; lia)]
   exact zk2 0 o1 o1' fv fv' hC
theorem ze2 {r : Nat -> Int} {us : List Value} (h : us.length < 2) : OutK r us us.toArray := by
 refine ⟨List.range us.length, List.Perm.refl _, ?_, ?_⟩
 ·match us, h with
  | [], _ => rfl
  | [v], _ => rfl
 ·match us, h with
  | [], _ => simp
  | [v], _ => simp
end
end L2
set_option maxHeartbeats 2000000
namespace L2
open PySem PySem.W PySem.Spec PyProof.Rows
noncomputable def cutD (xs : List D) (lo hi : Option Int) : List D := (xs.drop (HT.sIx xs.length 0 lo)).take (HT.sIx xs.length xs.length hi - HT.sIx xs.length 0 lo)
theorem Reps.cut {K : PySem.W.Frag} {H : Hp} {ds : List D} {xs : List V} (lo hi : Option Int) (h : Reps K H ds xs) : Reps K H (cutD ds lo hi) (cutV xs lo hi) := by
 unfold cutD cutV
 rw [<- h.length]
 exact (h.drop _).take _
section
variable {K : PySem.W.Frag} {G H₀ L : Hp} {ss : List Sl} {t ta tb : TE} {d : D} {ds : List D}
theorem zgz (a : EvL K G H₀ L ss t ds) : Ev K G H₀ L ss (tCB (fun xs H Q => ∃ p ys, xs = [.ref p] /\ (SqL K H p ys \/ SqT K H p ys) /\ Q (.int ys.length) H) (za9 t tNil)) (.int ds.length) := fun F H σ Q S q =>
 a F H σ _ S fun p vs F' H' e sq r => ⟨p, vs, rfl, .inl sq, q _ _ _ e (by rw [<- r.length]; exact Rep.int)⟩
theorem zlh (a : EvL K G H₀ L ss t ds) : EvO K G H₀ L ss (tCB (fun xs H Q => ∃ p ys, xs = [.ref p] /\ (SqL K H p ys \/ SqT K H p ys) /\ ∀ l, H l = none -> Q (.ref l) (upd H l (.lst ys))) (za9 t tNil)) ds := fun F H σ Q S q =>
 a F H σ _ S fun p vs F' H' e sq r => ⟨p, vs, rfl, .inl sq, fun l hl => q l vs F' _ (e.newO hl) (e.hh.free hl) (e.fh.free hl) zah r⟩
noncomputable def EvP (K : PySem.W.Frag) (G H₀ L : Hp) (ss : List Sl) (t : TO) (o : Option Int) : Prop := ∀ F H σ (Q : Option Int -> Hp -> Prop), Sat K G H₀ L F H σ ss -> (∀ F' H', Ext F H F' H' -> Q o H') -> t σ H Q
theorem zh6 : EvP K G H₀ L ss zmm none := fun F H σ Q S q => q _ _ (Ext.refl S.ext.fh)
theorem zb5 {i : Int} (a : EvB K G H₀ L ss t (.int i)) : EvP K G H₀ L ss (zt0 t) (some i) := fun F H σ Q S q => a F H σ _ S fun v F' H' e r => ⟨i, r.of_int, q _ _ e⟩
theorem zf1 {tl th : TO} {lo hi : Option Int} (a : EvL K G H₀ L ss t ds) (b : EvP K G H₀ L ss tl lo) (c : EvP K G H₀ L ss th hi) : EvO K G H₀ L ss (tSl (rSlL K) t tl th) (cutD ds lo hi) := fun F H σ Q S q =>
 a F H σ _ S fun p vs F1 H1 e1 sq r => b F1 H1 σ _ (S.ext2 e1) fun F2 H2 e2 => c F2 H2 σ _ ((S.ext2 e1).ext2 e2) fun F3 H3 e3 =>
  ⟨p, vs, rfl, SqL.same e3.hh (SqL.same e2.hh sq), fun l hl => q l _ F3 _ (((e1.trans e2).trans e3).newO hl) (((e1.trans e2).trans e3).hh.free hl) (((e1.trans e2).trans e3).fh.free hl) zah (((r.mono e2.gf).mono e3.gf).cut lo hi)⟩
theorem zrd {tl th : TO} {lo hi : Option Int} {l : List Nat} (a : EvB K G H₀ L ss t (.str l)) (b : EvP K G H₀ L ss tl lo) (c : EvP K G H₀ L ss th hi) (hz : l.length <= sizeLine) : Ev K G H₀ L ss (tSl rSlS t tl th) (.str (cutL l lo hi)) := fun F H σ Q S q =>
 a F H σ _ S fun v F1 H1 e1 r => b F1 H1 σ _ (S.ext2 e1) fun F2 H2 e2 => c F2 H2 σ _ ((S.ext2 e1).ext2 e2) fun F3 H3 e3 =>
  ⟨l, r.of_str, hz, q _ _ _ ((e1.trans e2).trans e3) (Rep.str fun c hc => r.asc c (List.mem_of_mem_drop (List.mem_of_mem_take hc)))⟩
noncomputable def glue (z : List Nat) : List (List Nat) -> List Nat
 | [] => []
 | [x] => x
 | x :: y :: r => x ++ z ++ glue z (y :: r)
end
theorem zrg (z : List Nat) : ∀ ls : List (List Nat), Str.join (T z) (ls.map T) = T (glue z ls)
 | [] => rfl
 | [x] => rfl
 | x :: y :: r => by
  have ih := zrg z (y :: r)
  rw [List.map_cons] at ih
  rw [List.map_cons, List.map_cons]
  show T x ++ T z ++ Str.join (T z) (T y :: r.map T) = _
  rw [ih, zst, zst]; rfl
theorem zld {z : List Nat} (hz : ∀ c ∈ z, c < 128) : ∀ {ls : List (List Nat)}, (∀ l ∈ ls, ∀ c ∈ l, c < 128) -> ∀ c ∈ glue z ls, c < 128
 | [], _, c, h => by cases h
 | [x], hl, c, h => hl x List.mem_cons_self c h
 | x :: y :: r, hl, c, h => by
  rw [glue] at h
  rcases List.mem_append.mp h with h | h
  ·rcases List.mem_append.mp h with h | h
   ·exact hl x List.mem_cons_self c h
   ·exact hz c h
  ·exact zld hz (ls:=y :: r) (fun l hm => hl l (List.mem_cons_of_mem _ hm)) c h
theorem Reps.strs {K : PySem.W.Frag} {H : Hp} : ∀ {ls : List (List Nat)} {vs : List V}, Reps K H (ls.map D.str) vs -> vs = (ls.map T).map V.str /\ ∀ l ∈ ls, ∀ c ∈ l, c < 128
 | [], vs, h => by rw [List.map_nil, Reps] at h; subst h; exact ⟨rfl, by simp⟩
 | l :: ls, vs, h => by
  rw [List.map_cons, Reps] at h
  obtain ⟨x, xs, rfl, h1, h2⟩ := h
  obtain ⟨e, ha⟩ := h2.strs
  refine ⟨by rw [h1.of_str, e]; rfl, fun m hm => ?_⟩
  rcases List.mem_cons.mp hm with rfl | hm
  ·exact h1.asc
  ·exact ha m hm
section
variable {K : PySem.W.Frag} {G H₀ L : Hp} {ss : List Sl} {t ta tb : TE} {d : D} {ds : List D}
theorem zr2 {z : List Nat} {ls : List (List Nat)} (a : EvB K G H₀ L ss ta (.str z)) (b : EvL K G H₀ L ss t (ls.map D.str)) (hz : (ls.map List.length).sum + ls.length * z.length <= 16777216) : Ev K G H₀ L ss (tBM K "str" (zsz K) ta (za9 t tNil)) (.str (glue z ls)) := fun F H σ Q S q =>
 a F H σ _ S fun v F1 H1 e1 r1 => by
  rw [r1.of_str]
  refine ⟨rfl, b F1 H1 σ _ (S.ext2 e1) fun p vs F2 H2 e2 sq r2 => ?_⟩
  obtain ⟨rfl, ha⟩ := r2.strs
  refine ⟨T z, p, ls.map T, rfl, rfl, sq, ?_, ?_⟩
  ·rw [List.map_map, List.length_map, zgi, show ((fun x : Str => x.length) ∘ T) = List.length from funext fun l => zgi l]; exact hz
  ·rw [zrg]
   exact q _ _ _ (e1.trans e2) (Rep.str (zld r1.asc ha))
theorem zrm (a : EvL K G H₀ L ss t ds) : Ev K G H₀ L ss (tCB (fun xs H Q => ∃ p ys, xs = [.ref p, .ty "list"] /\ SqL K H p ys /\ Q (.bl true) H) (za9 t (za9 (tC (.ty "list")) tNil))) (.bl true) := fun F H σ Q S q =>
 a F H σ _ S fun p vs F1 H1 e1 sq r1 => ⟨p, vs, rfl, sq, q _ _ _ e1 Rep.bl⟩
theorem zt8 (a : EvB K G H₀ L ss t (.tup ds)) : Ev K G H₀ L ss (tCB (fun xs H Q => ∃ p ys, xs = [.ref p, .ty "tuple"] /\ SqT K H p ys /\ Q (.bl true) H) (za9 t (za9 (tC (.ty "tuple")) tNil))) (.bl true) := fun F H σ Q S q =>
 a F H σ _ S fun v F1 H1 e1 r1 => by
  obtain ⟨p, vs, rfl, sq, _⟩ := r1.of_tup
  exact ⟨p, vs, rfl, sq, q _ _ _ e1 Rep.bl⟩
end
noncomputable def stripL (goes : Nat -> Bool) (l : List Nat) : List Nat := ((l.dropWhile goes).reverse.dropWhile goes).reverse
theorem zby (g : Nat -> Bool) : ∀ l : List Nat, l.drop (l.takeWhile g).length = l.dropWhile g
 | [] => rfl
 | x :: l => by
  rw [List.takeWhile_cons, List.dropWhile_cons]
  cases g x with
  | true => simp only [if_true, List.length_cons, List.drop_succ_cons]; exact zby g l
  | false => rfl
theorem zrx (l y : List Nat) : Txt.stripChars (T l) (T y) = T (stripL y.contains l) := by
 have ct : (T y).cps.contains = y.contains := by funext c; simp [T]
 have key : PySem.stripped y.contains true true (T l) = T (stripL y.contains l) := by
  unfold PySem.stripped PySem.stripLo PySem.stripHi
  simp only [if_true, zhk, zgi]
  rw [zby]
  have h1 : (l.takeWhile y.contains).length + (l.dropWhile y.contains).length = l.length := by
   rw [<- List.length_append, List.takeWhile_append_dropWhile]
  have e : Builtin.Str.strSub (T l) (l.takeWhile y.contains).length (l.length - ((l.dropWhile y.contains).reverse.takeWhile y.contains).length) = T ((l.drop (l.takeWhile y.contains).length).take (l.length - ((l.dropWhile y.contains).reverse.takeWhile y.contains).length - (l.takeWhile y.contains).length)) := by
   unfold Builtin.Str.strSub
   congr 1
   apply Array.toList_inj.mp
   rw [Array.toList_extract]
   show List.extract (T l).cps.toList _ _ = _
   rw [zhk]
  rw [e, zby]
  congr 1
  unfold stripL
  have h2 := zby y.contains (l.dropWhile y.contains).reverse
  rw [<- h2]
  have h3 : ((l.dropWhile y.contains).reverse.takeWhile y.contains).length <= (l.dropWhile y.contains).length := by
   have := (List.takeWhile_sublist (p:=y.contains) (l:=(l.dropWhile y.contains).reverse)).length_le
   simpa using this
  rw [List.drop_reverse, List.reverse_reverse]
  congr 1; omega
 unfold Txt.stripChars Txt.stripBy
 rw [ct]
 split
 ·rename_i h
  rw [<- key]
  unfold stripSame at h
  simp only [Bool.and_eq_true, beq_iff_eq] at h
  unfold PySem.stripped
  rw [h.2, h.1]
  unfold Builtin.Str.strSub
  have : (T l).cps.extract 0 (T l).length = (T l).cps := by
   show (T l).cps.extract 0 (T l).cps.size = _
   simp
  rw [this]
 ·exact key
noncomputable def zo7 : V -> List V -> Hp -> VK -> Prop := fun x vs H Q => ∃ z y, x = .str z /\ vs = [.str y] /\ z.length <= sizeLine /\ Q (.str (Txt.stripChars z y)) H
section
variable {X : Cx}
theorem zpa : MtR X "str.strip" zo7 := by
 intro pins s σ H x xs v us Q I rx rs h
 obtain ⟨z, y, rfl, rfl, hz, q⟩ := h
 obtain ⟨t, rfl⟩ := rx
 obtain ⟨u, rfl, ru⟩ := Vals.one rs
 obtain ⟨u, rfl⟩ := ru
 exact SC.stripChars (fun t' k => ⟨.str _, H, I.tok _, ⟨_, rfl⟩, q⟩) hz
end
section
variable {K : PySem.W.Frag} {G H₀ L : Hp} {ss : List Sl} {t ta tb : TE} {d : D} {ds : List D}
theorem zpl {l y : List Nat} (a : EvB K G H₀ L ss ta (.str l)) (b : EvB K G H₀ L ss t (.str y)) (hz : l.length <= sizeLine) : Ev K G H₀ L ss (tBM K "str" zo7 ta (za9 t tNil)) (.str (stripL y.contains l)) := fun F H σ Q S q =>
 a F H σ _ S fun v F1 H1 e1 r1 => by
  rw [r1.of_str]
  refine ⟨rfl, b F1 H1 σ _ (S.ext2 e1) fun v2 F2 H2 e2 r2 => ?_⟩
  refine ⟨T l, T y, rfl, by rw [r2.of_str], by rw [zgi]; exact hz, ?_⟩
  rw [zrx]
  refine q _ _ _ (e1.trans e2) (Rep.str fun c hc => r1.asc c ?_)
  unfold stripL at hc
  exact (List.dropWhile_sublist _).subset (List.mem_reverse.mp ((List.dropWhile_sublist _).subset (List.mem_reverse.mp hc)))
end
end L2
namespace L2
open PySem PySem.W PySem.Spec PyProof.Rows
section
variable {X : Cx} {prog : Program} {w : World} {A : Around} {E : Value -> Shared -> Prop} {s : Shared}
noncomputable def two (x y : Str) (t u : Tok) : Array Value := #[.str x t, .str y u]
theorem zkn {x y : Str} {t u : Tok} : ∀ (i : Nat) (v : Value), (two x y t u)[i]? = some v -> ∃ k, v = .str (if i = 0 then x else y) k
 | 0, v, h => ⟨t, by simp [two] at h; simp [h.symm]⟩
 | 1, v, h => ⟨u, by simp [two] at h; simp [h.symm]⟩
 | i + 2, v, h => by simp [two] at h
theorem zg1 {x y : Str} {t u : Tok} {Q : Value -> Shared -> Prop} (hh : A.handled = none)
  (h : ∀ h' tk, zdz s.heap h' -> Q (if y.cps.toList < x.cps.toList then .str y u else .str x t) { s with heap := h', toks := tk }) : wpAny (model prog w) A (call (.builtin "min") [.str x t, .str y u]) Q E s := by
 have hT : (s.heap.push { cls := .type "tuple", data := .seq (two x y t u) }).IsTuple s.heap.objs.size (two x y t u) := ⟨_, Heap.get?_push_size _ rfl, rfl, 0, rfl⟩
 have hsz : (s.heap.push { cls := .type "tuple", data := .seq (two x y t u) }).objs.size = s.heap.objs.size + 1 := Heap.size_push ..
 refine call_min_two (wpAny_pyIter_tuple hT ?_)
 refine ⟨_, [_, s.heap.objs.size], [_], _, _, _, fun i j => decide ((if i = 0 then x else y).cps.toList < (if j = 0 then x else y).cps.toList), rfl, Walks.tuple (A:=A.in1) hh _ s.heap.objs.size (Nat.ne_of_lt (by rw [Heap.size_push]; lia)) (two x y t u), ⟨⟨_, Heap.get?_push_size _ rfl, rfl, rfl⟩, hT.push _⟩, fun c hc => ?_, by simp [two], ?_, fun v h' tk hP hk => ?_⟩
 ·show c < ((s.heap.push _).push _).objs.size
  rw [Heap.size_push, Heap.size_push]
  simp only [List.mem_cons, List.not_mem_nil, or_false] at hc
  rcases hc with rfl | rfl
  ·rw [Heap.size_push]; exact Nat.lt_succ_self _
  ·exact Nat.lt_succ_of_lt (Nat.lt_succ_self _)
 ·intro i j vi vj s' Q' E' hi hj hq
  obtain ⟨k1, rfl⟩ := zkn i vi hi
  obtain ⟨k2, rfl⟩ := zkn j vj hj
  exact richCompare_gives (op:=.Lt) (typeIs_str _ _ _) (typeIs_str _ _ _) F.slot_str_lt F.entry_str_lt (F.args_str_lt_2 _ _) (gives_str_lt _ _ _ _) (fun e => nomatch e) hq
 ·have hold : zdz s.heap h' := fun c o e => by
   have h1 := Heap.lt_size e
   refine hk c o (fun hm => ?_) (Heap.get?_push_of_some _ (Heap.get?_push_of_some _ e))
   rw [List.mem_singleton.mp hm, Heap.size_push] at h1; exact absurd (Nat.lt_of_succ_lt h1) (Nat.lt_irrefl _)
  have := h h' tk hold
  have hsz2 : (two x y t u).size - 1 = 1 := by simp [two]
  have hP' : (two x y t u)[argBest (fun i j => decide ((if i = 0 then x else y).cps.toList < (if j = 0 then x else y).cps.toList)) 1]? = some v := by rw [<- hsz2]; exact hP
  by_cases hyx : y.cps.toList < x.cps.toList
  ·have e : argBest (fun i j => decide ((if i = 0 then x else y).cps.toList < (if j = 0 then x else y).cps.toList)) 1 = 1 := by simp [argBest, hyx]
   rw [e] at hP'
   rw [if_pos hyx] at this
   simp [two] at hP'
   rw [<- hP']; exact this
  ·have e : argBest (fun i j => decide ((if i = 0 then x else y).cps.toList < (if j = 0 then x else y).cps.toList)) 1 = 0 := by simp [argBest, hyx]
   rw [e] at hP'
   rw [if_neg hyx] at this
   simp [two] at hP'
   rw [<- hP']; exact this
theorem zhp {x y : Str} {t u : Tok} {Q : Value -> Shared -> Prop} (hh : A.handled = none)
  (h : ∀ h' tk, zdz s.heap h' -> Q (if x.cps.toList < y.cps.toList then .str y u else .str x t) { s with heap := h', toks := tk }) : wpAny (model prog w) A (call (.builtin "max") [.str x t, .str y u]) Q E s := by
 have hT : (s.heap.push { cls := .type "tuple", data := .seq (two x y t u) }).IsTuple s.heap.objs.size (two x y t u) := ⟨_, Heap.get?_push_size _ rfl, rfl, 0, rfl⟩
 have hsz : (s.heap.push { cls := .type "tuple", data := .seq (two x y t u) }).objs.size = s.heap.objs.size + 1 := Heap.size_push ..
 refine call_max_two (wpAny_pyIter_tuple hT ?_)
 refine ⟨_, [_, s.heap.objs.size], [_], _, _, _, fun i j => decide ((if j = 0 then x else y).cps.toList < (if i = 0 then x else y).cps.toList), rfl, Walks.tuple (A:=A.in1) hh _ s.heap.objs.size (Nat.ne_of_lt (by rw [Heap.size_push]; lia)) (two x y t u), ⟨⟨_, Heap.get?_push_size _ rfl, rfl, rfl⟩, hT.push _⟩, fun c hc => ?_, by simp [two], ?_, fun v h' tk hP hk => ?_⟩
 ·show c < ((s.heap.push _).push _).objs.size
  rw [Heap.size_push, Heap.size_push]
  simp only [List.mem_cons, List.not_mem_nil, or_false] at hc
  rcases hc with rfl | rfl
  ·rw [Heap.size_push]; exact Nat.lt_succ_self _
  ·exact Nat.lt_succ_of_lt (Nat.lt_succ_self _)
 ·intro i j vi vj s' Q' E' hi hj hq
  obtain ⟨k1, rfl⟩ := zkn i vi hi
  obtain ⟨k2, rfl⟩ := zkn j vj hj
  exact richCompare_gives (op:=.Gt) (typeIs_str _ _ _) (typeIs_str _ _ _) F.slot_str_gt F.entry_str_gt (F.args_str_gt_2 _ _) (gives_str_gt _ _ _ _) (fun e => nomatch e) hq
 ·have hold : zdz s.heap h' := fun c o e => by
   have h1 := Heap.lt_size e
   refine hk c o (fun hm => ?_) (Heap.get?_push_of_some _ (Heap.get?_push_of_some _ e))
   rw [List.mem_singleton.mp hm, Heap.size_push] at h1; exact absurd (Nat.lt_of_succ_lt h1) (Nat.lt_irrefl _)
  have := h h' tk hold
  have hsz2 : (two x y t u).size - 1 = 1 := by simp [two]
  have hP' : (two x y t u)[argBest (fun i j => decide ((if j = 0 then x else y).cps.toList < (if i = 0 then x else y).cps.toList)) 1]? = some v := by rw [<- hsz2]; exact hP
  by_cases hyx : x.cps.toList < y.cps.toList
  ·have e : argBest (fun i j => decide ((if j = 0 then x else y).cps.toList < (if i = 0 then x else y).cps.toList)) 1 = 1 := by simp [argBest, hyx]
   rw [e] at hP'
   rw [if_pos hyx] at this
   simp [two] at hP'
   rw [<- hP']; exact this
  ·have e : argBest (fun i j => decide ((if j = 0 then x else y).cps.toList < (if i = 0 then x else y).cps.toList)) 1 = 0 := by simp [argBest, hyx]
   rw [e] at hP'
   rw [if_neg hyx] at this
   simp [two] at hP'
   rw [<- hP']; exact this
theorem zox (hc : X.calm = true) : zca X (.builtin "min") (fun xs H Q => ∃ l m : List Nat, xs = [.str (T l), .str (T m)] /\ Q (.str (T (if m < l then m else l))) H) := by
 intro pins s σ H xs us Q I r h
 obtain ⟨l, m, rfl, q⟩ := h
 obtain ⟨u, w', rfl, ⟨t, rfl⟩, ⟨t', rfl⟩⟩ := zje r
 refine zg1 (I.ok.hd hc) fun h' tk k => ⟨_, H, I.kept k, ?_, q⟩
 rw [zhk, zhk]
 split <;> exact ⟨_, rfl⟩
theorem zmi (hc : X.calm = true) : zca X (.builtin "max") (fun xs H Q => ∃ l m : List Nat, xs = [.str (T l), .str (T m)] /\ Q (.str (T (if l < m then m else l))) H) := by
 intro pins s σ H xs us Q I r h
 obtain ⟨l, m, rfl, q⟩ := h
 obtain ⟨u, w', rfl, ⟨t, rfl⟩, ⟨t', rfl⟩⟩ := zje r
 refine zhp (I.ok.hd hc) fun h' tk k => ⟨_, H, I.kept k, ?_, q⟩
 rw [zhk, zhk]
 split <;> exact ⟨_, rfl⟩
end
end L2
namespace L2
open PySem PySem.W PySem.Spec PyProof.Rows PySem.Calls
open PySem.MeetsSeq PySem.MeetsSeq2 PySem.MeetsSeq3
section
variable {K : PySem.W.Frag} {G H₀ L : Hp} {ss : List Sl} {t ta tb : TE} {d : D} {ds es : List D}
noncomputable def minL (l m : List Nat) : List Nat := if m < l then m else l
noncomputable def maxL (l m : List Nat) : List Nat := if l < m then m else l
theorem zsq {l m : List Nat} (a : EvB K G H₀ L ss ta (.str l)) (b : EvB K G H₀ L ss tb (.str m)) : Ev K G H₀ L ss (tCB (fun xs H Q => ∃ l m : List Nat, xs = [.str (T l), .str (T m)] /\ Q (.str (T (if m < l then m else l))) H) (za9 ta (za9 tb tNil))) (.str (minL l m)) := fun F H σ Q S q =>
 a F H σ _ S fun v F1 H1 e1 r1 => b F1 H1 σ _ (S.ext2 e1) fun v2 F2 H2 e2 r2 => ⟨l, m, by rw [r1.of_str, r2.of_str], q _ _ _ (e1.trans e2) (Rep.str (by unfold minL; split; exact r2.asc; exact r1.asc))⟩
theorem zsm {l m : List Nat} (a : EvB K G H₀ L ss ta (.str l)) (b : EvB K G H₀ L ss tb (.str m)) : Ev K G H₀ L ss (tCB (fun xs H Q => ∃ l m : List Nat, xs = [.str (T l), .str (T m)] /\ Q (.str (T (if l < m then m else l))) H) (za9 ta (za9 tb tNil))) (.str (maxL l m)) := fun F H σ Q S q =>
 a F H σ _ S fun v F1 H1 e1 r1 => b F1 H1 σ _ (S.ext2 e1) fun v2 F2 H2 e2 r2 => ⟨l, m, by rw [r1.of_str, r2.of_str], q _ _ _ (e1.trans e2) (Rep.str (by unfold maxL; split; exact r2.asc; exact r1.asc))⟩
end
end L2
namespace L2
open PySem PySem.W PySem.Spec PyProof.Rows
noncomputable def slots (n : Nat) (ds : List D) : List Sl := ds.map Sl.d ++ List.replicate (n - ds.length) .un
section
variable {K : PySem.W.Frag} {H : Hp} {vs : List V} {Q : VK} {X : XK} {N : List Str} {t : TS} {pre : List D -> Prop}
theorem zcq {G : Hp} {ds : List D} (sm : Same G H) (r : Reps K G ds vs) (hN : vs.length <= N.length) : Sat K G H G G H (zdy N vs) (slots N.length ds) := by
 have hl := r.length
 have ads : ∀ (i : Nat) s, (slots N.length ds)[i]? = some s -> s.ads = [] := fun i s hs => by
  have hm := List.mem_of_getElem? hs
  unfold slots at hm
  rcases List.mem_append.mp hm with h | h
  ·obtain ⟨d, _, rfl⟩ := List.mem_map.mp h; rfl
  ·rw [List.eq_of_mem_replicate h]; rfl
 refine ⟨Ext.refl sm, Same.refl _, ?_, fun i s hs => ?_, fun i s hs => by rw [ads i s hs]; exact List.nodup_nil, fun i j s s' _ hs _ p hp => by rw [ads i s hs] at hp; cases hp⟩
 ·unfold zdy slots; simp; lia
 ·by_cases hi : i < ds.length
  ·have e : (slots N.length ds)[i]? = some (.d ds[i]) := by
    unfold slots
    rw [List.getElem?_append_left (by simpa using hi), List.getElem?_map, List.getElem?_eq_getElem hi]; rfl
   rw [e] at hs
   cases hs
   obtain ⟨v, hv, rv⟩ := r.get' (List.getElem?_eq_getElem hi)
   refine ⟨v, ?_, rv⟩
   unfold zdy
   rw [List.getD_eq_getElem?_getD, List.getElem?_append_left (by simp; lia), List.getElem?_map, hv]; rfl
  ·have hm : s = .un := by
    unfold slots at hs
    rw [List.getElem?_append_right (by simp; lia)] at hs
    exact List.eq_of_mem_replicate (List.mem_of_getElem? hs)
   rw [hm]; trivial
theorem zke {res : List D -> D} (h : SpD K pre res vs H Q X) (hN : vs.length <= N.length) (body : ∀ G ds, pre ds -> RtD K G H Q (res ds) -> Go K G H G { nx := fun _ H' => Q .non H', rt := Q } (slots N.length ds) t) : t { nx := fun _ H' => Q .non H', rt := Q } (zdy N vs) H := by
 obtain ⟨G, ds, sm, r, hp, q⟩ := h
 exact body G ds hp (fun v F H' e r => q v F H' e r) G H _ (zcq sm r hN)
theorem znb {res : List D -> List D} (h : SpO K pre res vs H Q X) (hN : vs.length <= N.length) (body : ∀ G ds, pre ds -> RtO K G H Q (res ds) -> Go K G H G { nx := fun _ H' => Q .non H', rt := Q } (slots N.length ds) t) : t { nx := fun _ H' => Q .non H', rt := Q } (zdy N vs) H := by
 obtain ⟨G, ds, sm, r, hp, q⟩ := h
 exact body G ds hp (fun p ws F H' e h1 h2 h3 r => q p ws F H' e h1 h2 h3 r) G H _ (zcq sm r hN)
theorem zde {res : List D -> D} {n : Nat} (hpre : ∀ ds, pre ds -> ds.length = n) (h : SpD K pre res vs H Q X) : vs.length = n := by
 obtain ⟨G, ds, sm, r, hp, q⟩ := h
 rw [<- r.length]; exact hpre ds hp
theorem zev {res : List D -> List D} {n : Nat} (hpre : ∀ ds, pre ds -> ds.length = n) (h : SpO K pre res vs H Q X) : vs.length = n := by
 obtain ⟨G, ds, sm, r, hp, q⟩ := h
 rw [<- r.length]; exact hpre ds hp
end
section
variable {K : PySem.W.Frag} {G H₀ L : Hp} {ss : List Sl} {t ta tb : TE} {d : D} {ds es : List D} {i j : Int}
theorem zb1 (a : EvB K G H₀ L ss ta (.int i)) (b : EvB K G H₀ L ss tb (.int j)) (h : 0 < j) : Ev K G H₀ L ss (tOp (rI (fun _ j => 0 < j) fun i j => .int (i % j)) ta tb) (.int (i % j)) := zmh (C:=fun _ j => 0 < j) (g:=fun i j => i % j) a b h
theorem zm6 (a : EvB K G H₀ L ss ta (.int i)) (b : EvB K G H₀ L ss tb (.int j)) (h : CMul i j) : Ev K G H₀ L ss (tOp (rI CMul fun i j => .int (i * j)) ta tb) (.int (i * j)) := zmh (C:=CMul) (g:=fun i j => i * j) a b h
theorem zd4 (a : EvB K G H₀ L ss ta (.int i)) (b : EvB K G H₀ L ss tb (.int j)) (h : CDiv i j) : Ev K G H₀ L ss (tOp (rI CDiv fun i j => .int (i / j)) ta tb) (.int (i / j)) := zmh (C:=CDiv) (g:=fun i j => i / j) a b h
end
theorem zlk (n d : Nat) {a : Int} (h : 0 <= a) : HT.sIx n d (some a) = min a.toNat n := by
 show (if a < 0 then (a + (n : Int)).toNat else min a.toNat n) = _
 rw [if_neg (by lia)]
theorem zoi (m : List D) {a : Int} (h : 0 <= a) : cutD m none (some a) = m.take a.toNat := by
 unfold cutD
 rw [zlk _ _ h, show HT.sIx m.length 0 none = 0 from rfl, List.drop_zero, Nat.sub_zero, <- List.take_eq_take_min]
theorem zfx (m : List D) {b : Int} (h : 0 <= b) : cutD m (some b) none = m.drop b.toNat := by
 unfold cutD
 rw [zlk _ _ h, show HT.sIx m.length m.length none = m.length from rfl, List.take_of_length_le (by rw [List.length_drop]; lia)]
 by_cases hh : b.toNat <= m.length
 ·rw [Nat.min_eq_left hh]
 ·rw [Nat.min_eq_right (by lia), List.drop_length, List.drop_eq_nil_of_le (by lia)]
theorem zkq (m : List D) {a b : Int} (h : 0 <= a) (h2 : a <= b) : cutD m (some a) (some b) = (m.drop a.toNat).take (b.toNat - a.toNat) := by
 unfold cutD
 rw [zlk _ _ h, zlk _ _ (by lia)]
 by_cases h3 : a.toNat <= m.length
 ·rw [Nat.min_eq_left h3]
  by_cases h4 : b.toNat <= m.length
  ·rw [Nat.min_eq_left h4]
  ·rw [Nat.min_eq_right (by lia), List.take_of_length_le (by simp), List.take_of_length_le (by simp; lia)]
 ·rw [List.drop_eq_nil_of_le (as:=m) (i:=a.toNat) (by lia), List.drop_eq_nil_of_le (by omega)]; simp
end L2
namespace L2
open PySem PySem.W PySem.Spec PyProof.Rows
theorem zqm {α β : Type} (xs : List α) (z : α) (p : α -> Bool) (f : α -> β) : ((List.range xs.length).filter fun i => p (xs.getD i z)).map (fun i => f (xs.getD i z)) = (xs.filter p).map f := by
 have e : xs = (List.range xs.length).map fun i => xs.getD i z := by
  refine List.ext_getElem? fun i => ?_
  rw [List.getElem?_map]
  by_cases hi : i < xs.length
  ·rw [List.getElem?_range hi, List.getElem?_eq_getElem hi]; simp [List.getD_eq_getElem?_getD, hi]
  ·rw [List.getElem?_eq_none (by lia), List.getElem?_eq_none (by simp; lia)]; rfl
 conv => rhs; rw [e]
 rw [List.filter_map, List.map_map]
 rfl
section
variable {K : PySem.W.Frag} {G H₀ L : Hp} {ss : List Sl}
theorem zf6 {α : Type} (xs : List α) (enc : α -> D) (p : α -> Bool) (f : α -> D) {tl : TE} {g : TG} {tt : TT} {te : TE} {nt : Nat} {cs : List Nat} (a : EvL K G H₀ L ss tl (xs.map enc)) (hk : GK nt g) (hc : cs.Nodup) (hz : xs.length < sizeLine)
  (hs : ∀ x ∈ xs, ∃ ss', Tg K G H₀ L g (enc x) (lcSl nt cs ss) ss' /\ EvT K G H₀ L ss' tt (p x) /\ (p x = true -> Ev K G H₀ L ss' te (f x))) :
  EvO K G H₀ L ss (tLC nt cs (zh8 K tl) g tt te) ((xs.filter p).map f) := by
 cases xs with
 | nil =>
  have := zj7 (p:=fun _ => true) (f:=fun _ => .non) (tt:=tt) (te:=te) (zlg a) hk hc (by simpa using hz) (fun i hi => by simp at hi)
  simpa using this
 | cons z zs =>
  have hl : ((z :: zs).map enc).length = (z :: zs).length := by simp
  have := zj7 (p:=fun i => p ((z :: zs).getD i z)) (f:=fun i => f ((z :: zs).getD i z)) (tt:=tt) (te:=te) (zlg a) hk hc (by rw [hl]; exact hz) (fun i hi => by
   rw [hl] at hi
   have hm : (z :: zs).getD i z ∈ (z :: zs) := by
    rw [List.getD_eq_getElem?_getD, List.getElem?_eq_getElem hi]; exact List.getElem_mem hi
   have e : ((z :: zs).map enc).getD i .non = enc ((z :: zs).getD i z) := by
    rw [List.getD_eq_getElem?_getD, List.getElem?_map, List.getD_eq_getElem?_getD, List.getElem?_eq_getElem hi]; rfl
   rw [e]
   exact hs _ hm)
  rw [hl, zqm] at this
  exact this
theorem zqk : EvT K G H₀ L ss zp9 true := fun F H σ Q S q => q _ _ (Ext.refl S.ext.fh)
theorem zhv {α : Type} (xs : List α) (enc : α -> D) (f : α -> D) {tl : TE} {g : TG} {te : TE} {nt : Nat} {cs : List Nat} (a : EvL K G H₀ L ss tl (xs.map enc)) (hk : GK nt g) (hc : cs.Nodup) (hz : xs.length < sizeLine)
  (hs : ∀ x ∈ xs, ∃ ss', Tg K G H₀ L g (enc x) (lcSl nt cs ss) ss' /\ Ev K G H₀ L ss' te (f x)) :
  EvO K G H₀ L ss (tLC nt cs (zh8 K tl) g zp9 te) (xs.map f) := by
 have := zf6 xs enc (fun _ => true) f a hk hc hz (tt:=zp9) (te:=te) fun x hx => by
  obtain ⟨ss', h1, h2⟩ := hs x hx
  exact ⟨ss', h1, zqk, fun _ => h2⟩
 rw [show xs.filter (fun _ => true) = xs from List.filter_eq_self.mpr (by simp)] at this
 exact this
theorem zlf {α : Type} {z : List Nat} {xs : List α} {g : α -> List Nat} {ta t : TE} (a : EvB K G H₀ L ss ta (.str z)) (b : EvL K G H₀ L ss t (xs.map fun x => D.str (g x))) (hz : ((xs.map g).map List.length).sum + xs.length * z.length <= 16777216) : Ev K G H₀ L ss (tBM K "str" (zsz K) ta (za9 t tNil)) (.str (glue z (xs.map g))) := by
 refine zr2 a ?_ (by rw [List.length_map (f:=g)]; exact hz)
 rw [List.map_map]; exact b
theorem zfc {x : Str} (ha : ∀ c ∈ x.cps.toList, c < 128) : Ev K G H₀ L ss (tC (.str x)) (.str x.cps.toList) := zc6 (by cases x; rfl) ha
end
theorem zk4 : ∀ ls : List (List Nat), glue [] ls = ls.flatten
 | [] => rfl
 | [x] => by simp [glue]
 | x :: y :: r => by rw [glue, zk4 (y :: r)]; simp
theorem zk6 {α : Type} (xs : List α) (g : α -> Nat) : glue [] (xs.map fun x => [g x]) = xs.map g := by
 rw [zk4]
 induction xs with
 | nil => rfl
 | cons x xs ih => simp [ih]
end L2
set_option maxHeartbeats 4000000
namespace L2T
open PySem
theorem zhg (xs : Array Nat) (hp : xs.toList.Pairwise (· < ·)) (i k x y : Nat) (hik : i < k) (hx : xs[i]? = some x) (hy : xs[k]? = some y) : x < y := by
 rw [<- Array.getElem?_toList] at hx hy
 obtain ⟨hi', hx'⟩ := List.getElem?_eq_some_iff.mp hx
 obtain ⟨hk', hy'⟩ := List.getElem?_eq_some_iff.mp hy
 have h := List.pairwise_iff_getElem.mp hp i k hi' hk' hik
 rw [hx', hy'] at h; exact h
theorem zqz (xs : Array Nat) (j : Nat) (hp : xs.toList.Pairwise (· < ·)) : ∀ (fuel lo hi : Nat), hi - lo <= fuel -> lo <= hi -> hi <= xs.size ->
  (∀ i x, i < lo -> xs[i]? = some x -> x < j) -> (∀ i x, hi <= i -> xs[i]? = some x -> j <= x) ->
  (SetTable.below.go xs j fuel lo hi <= xs.size) /\ (∀ i x, i < SetTable.below.go xs j fuel lo hi -> xs[i]? = some x -> x < j) /\ (∀ i x, SetTable.below.go xs j fuel lo hi <= i -> xs[i]? = some x -> j <= x) := by
 intro fuel
 induction fuel with
 | zero =>
  intro lo hi hf hl hs h1 h2
  have : lo = hi := by lia
  subst this
  exact ⟨hs, h1, h2⟩
 | succ fuel ih =>
  intro lo hi hf hl hs h1 h2
  unfold SetTable.below.go
  by_cases hlt : lo < hi
  ·rw [if_pos hlt]
   have hm : (lo + hi) / 2 < xs.size := by lia
   have hgm : xs[(lo + hi) / 2]? = some xs[(lo + hi) / 2] := Array.getElem?_eq_getElem hm
   have hgd : xs.getD ((lo + hi) / 2) j = xs[(lo + hi) / 2] := by simp [Array.getD, hm]
   have hmono := zhg xs hp
   dsimp only
   rw [hgd]
   by_cases hc : xs[(lo + hi) / 2] < j
   ·rw [if_pos hc]
    refine ih _ _ (by omega) (by lia) hs ?_ h2
    intro i x hi' hx
    by_cases he : i = (lo + hi) / 2
    ·subst he; rw [hgm] at hx; cases hx; exact hc
    ·have := hmono i ((lo + hi) / 2) x _ (by lia) hx hgm; lia
   ·rw [if_neg hc]
    refine ih _ _ (by omega) (by lia) (by lia) h1 ?_
    intro i x hi' hx
    by_cases he : i = (lo + hi) / 2
    ·subst he; rw [hgm] at hx; cases hx; lia
    ·have := hmono ((lo + hi) / 2) i _ x (by lia) hgm hx; lia
  ·rw [if_neg hlt]
   have : lo = hi := by lia
   subst this
   exact ⟨hs, h1, h2⟩
theorem zdt (xs : Array Nat) (j : Nat) (hp : xs.toList.Pairwise (· < ·)) :
  SetTable.below xs j <= xs.size /\ (∀ i x, i < SetTable.below xs j -> xs[i]? = some x -> x < j) /\ (∀ i x, SetTable.below xs j <= i -> xs[i]? = some x -> j <= x) := by
 unfold SetTable.below
 exact zqz xs j hp xs.size 0 xs.size (by lia) (by lia) (by lia) (fun i x h => by lia) (fun i x h hx => by
  have := (Array.getElem?_eq_some_iff.mp hx).1; lia)
theorem zct (xs : Array Nat) (j : Nat) (hp : xs.toList.Pairwise (· < ·)) : xs[SetTable.below xs j]? = some j ↔ j ∈ xs.toList := by
 obtain ⟨h0, h1, h2⟩ := zdt xs j hp
 constructor
 ·intro h; rw [<- Array.getElem?_toList] at h; exact List.mem_of_getElem? h
 ·intro h
  obtain ⟨i, hi⟩ := List.mem_iff_getElem?.mp h
  rw [Array.getElem?_toList] at hi
  rcases Nat.lt_or_ge i (SetTable.below xs j) with hc | hc
  ·have := h1 i j hc hi; lia
  ·have hib := (Array.getElem?_eq_some_iff.mp hi).1
   have hb : SetTable.below xs j < xs.size := by lia
   have hg : xs[SetTable.below xs j]? = some xs[SetTable.below xs j] := Array.getElem?_eq_getElem hb
   have h3 := h2 _ _ (Nat.le_refl _) hg
   rcases Nat.lt_or_ge (SetTable.below xs j) i with hd | hd
   ·have := zhg xs hp _ _ _ _ hd hg hi
    lia
   ·have : i = SetTable.below xs j := by lia
    rw [<- this]; exact hi
theorem zfu (xs : Array Nat) (j : Nat) (hp : xs.toList.Pairwise (· < ·)) : SetTable.has xs j = true ↔ j ∈ xs.toList := by
 unfold SetTable.has
 rw [beq_iff_eq]
 exact zct xs j hp
theorem zqc (xs : Array Nat) (i j : Nat) (hp : xs.toList.Pairwise (· < ·)) (h : xs[i]? = some j) : SetTable.below xs j = i := by
 have hm := (zct xs j hp).mpr (by rw [<- Array.getElem?_toList] at h; exact List.mem_of_getElem? h)
 rw [<- Array.getElem?_toList] at h hm
 obtain ⟨hi, hx⟩ := List.getElem?_eq_some_iff.mp h
 obtain ⟨hk, hy⟩ := List.getElem?_eq_some_iff.mp hm
 rcases Nat.lt_trichotomy (SetTable.below xs j) i with hc | hc | hc
 ·have := List.pairwise_iff_getElem.mp hp _ _ hk hi hc; lia
 ·exact hc
 ·have := List.pairwise_iff_getElem.mp hp _ _ hi hk hc; lia
theorem za2 {α : Type} (xs : Array α) (p : Nat) (x : α) (hp : p <= xs.size) : (SetTable.insertAt xs p x).toList = xs.toList.take p ++ x :: xs.toList.drop p := by
 simp [SetTable.insertAt, Array.toList_extract, List.extract, List.take_of_length_le]
theorem zcf {α : Type} (xs : Array α) (p : Nat) : (SetTable.eraseAt xs p).toList = xs.toList.take p ++ xs.toList.drop (p + 1) := by
 simp [SetTable.eraseAt, Array.toList_extract, List.extract, List.take_of_length_le]
theorem zgl (xs : Array Nat) (j : Nat) (hp : xs.toList.Pairwise (· < ·)) (hj : j ∉ xs.toList) :
  (SetTable.insertAt xs (SetTable.below xs j) j).toList.Pairwise (· < ·) := by
 obtain ⟨h0, h1, h2⟩ := zdt xs j hp
 rw [za2 _ _ _ h0, List.pairwise_append, List.pairwise_cons]
 have ht : ∀ x ∈ xs.toList.take (SetTable.below xs j), x < j := by
  intro x hx
  obtain ⟨i, hi⟩ := List.mem_iff_getElem?.mp hx
  rw [List.getElem?_take] at hi
  split at hi
  ·rename_i hlt; exact h1 i x hlt (by rw [<- Array.getElem?_toList]; exact hi)
  ·cases hi
 have hd : ∀ x ∈ xs.toList.drop (SetTable.below xs j), j < x := by
  intro x hx
  obtain ⟨i, hi⟩ := List.mem_iff_getElem?.mp hx
  rw [List.getElem?_drop] at hi
  have := h2 _ x (Nat.le_add_right _ i) (by rw [<- Array.getElem?_toList]; exact hi)
  have hne : x ≠ j := fun e => hj (e ▸ List.mem_of_getElem? hi)
  lia
 refine ⟨hp.sublist (List.take_sublist _ _), ⟨hd, hp.sublist (List.drop_sublist _ _)⟩, ?_⟩
 intro x hx y hy
 rcases List.mem_cons.mp hy with rfl | hy
 ·exact ht x hx
 ·have := ht x hx; have := hd y hy; lia
structure TOk (t : SetTable) : Prop where
 pl : t.place.toList.Pairwise (· < ·)
 du : t.dummies.toList.Pairwise (· < ·)
 ple : ∀ j ∈ t.place.toList, j <= t.mask
 dle : ∀ j ∈ t.dummies.toList, j <= t.mask
 dis : ∀ j ∈ t.dummies.toList, j ∉ t.place.toList
 pow : ∃ k, t.mask + 1 = 2 ^ (k + 3)
 big : t.mask <= 8191
theorem zc9 {t : SetTable} (h : TOk t) (j i : Nat) : t.slot j = .live i ↔ t.place[i]? = some j := by
 unfold SetTable.slot
 dsimp only
 by_cases hc : t.place[SetTable.below t.place j]? = some j
 ·rw [if_pos (by rw [beq_iff_eq]; exact hc)]
  constructor
  ·intro he; cases he; exact hc
  ·intro hi; rw [zqc _ _ _ h.pl hi]
 ·rw [if_neg (by rw [beq_iff_eq]; exact hc)]
  constructor
  ·intro he; split at he <;> cases he
  ·intro hi; exact absurd ((zct _ _ h.pl).mpr (by rw [<- Array.getElem?_toList] at hi; exact List.mem_of_getElem? hi)) hc
theorem zdu {t : SetTable} (h : TOk t) (j : Nat) : t.slot j = .dummy ↔ j ∈ t.dummies.toList := by
 unfold SetTable.slot
 dsimp only
 by_cases hc : t.place[SetTable.below t.place j]? = some j
 ·rw [if_pos (by rw [beq_iff_eq]; exact hc)]
  constructor
  ·intro he; cases he
  ·intro hi; exact absurd ((zct _ _ h.pl).mp hc) (h.dis j hi)
 ·rw [if_neg (by rw [beq_iff_eq]; exact hc)]
  by_cases hd : SetTable.has t.dummies j = true
  ·rw [if_pos hd]; exact ⟨fun _ => (zfu _ _ h.du).mp hd, fun _ => rfl⟩
  ·rw [if_neg hd]; exact ⟨fun he => (by cases he), fun he => absurd ((zfu _ _ h.du).mpr he) hd⟩
theorem zcn {t : SetTable} (h : TOk t) (j : Nat) : t.slot j = .empty ↔ (j ∉ t.place.toList /\ j ∉ t.dummies.toList) := by
 constructor
 ·intro he
  refine ⟨fun hm => ?_, fun hm => ?_⟩
  ·obtain ⟨i, hi⟩ := List.mem_iff_getElem?.mp hm
   rw [Array.getElem?_toList] at hi
   rw [(zc9 h j i).mpr hi] at he; cases he
  ·rw [(zdu h j).mpr hm] at he; cases he
 ·rintro ⟨h1, h2⟩
  cases hs : t.slot j with
  | empty => rfl
  | dummy => exact absurd ((zdu h j).mp hs) h2
  | live i =>
   have := (zc9 h j i).mp hs
   rw [<- Array.getElem?_toList] at this
   exact absurd (List.mem_of_getElem? this) h1
theorem zl1 : ∀ (n : Nat) (L : List Nat), (∀ x, x < n -> x ∈ L) -> n <= L.length := by
 intro n
 induction n with
 | zero => intro L _; exact Nat.zero_le _
 | succ n ih =>
  intro L h
  have hn : n ∈ L := h n (by lia)
  have h1 := ih (L.erase n) (fun x hx => (List.mem_erase_of_ne (by lia)).mpr (h x (by lia)))
  have h2 := List.length_erase_of_mem hn
  have h3 : 0 < L.length := List.length_pos_of_mem hn
  lia
theorem zgr {t : SetTable} (h : TOk t) (hr : t.fill <= t.mask) : ∃ e, e <= t.mask /\ t.slot e = .empty := by
 refine Classical.byContradiction fun hc => ?_
 have hall : ∀ x, x < t.mask + 1 -> x ∈ t.place.toList ++ t.dummies.toList := by
  intro x hx
  refine Classical.byContradiction fun hn => hc ⟨x, by lia, (zcn h x).mpr ?_⟩
  rw [List.mem_append] at hn
  exact ⟨fun a => hn (.inl a), fun a => hn (.inr a)⟩
 have := zl1 _ _ hall
 simp only [SetTable.fill, List.length_append, Array.length_toList] at this hr
 lia
noncomputable def lcg : Nat -> Nat -> Nat
 | 0, x => x
 | n + 1, x => lcg n (5 * x + 1)
theorem zjt (m n x : Nat) : lcg (m + n) x = lcg n (lcg m x) := by
 induction m generalizing x with
 | zero => simp [lcg]
 | succ m ih => rw [Nat.succ_add]; exact ih _
theorem zs2 : ∀ k, ∃ u v, ∀ x, lcg (2 ^ k) x = (1 + 2 ^ (k + 2) * u) * x + 2 ^ k * (2 * v + 1) := by
 intro k
 induction k with
 | zero => exact ⟨1, 0, fun x => by simp [lcg]⟩
 | succ k ih =>
  obtain ⟨u, v, h⟩ := ih
  refine ⟨u + 2 ^ (k + 1) * u * u, v + 2 ^ k * u * (2 * v + 1), fun x => ?_⟩
  have e : 2 ^ (k + 1) = 2 ^ k + 2 ^ k := by lia
  conv => lhs; rw [e]
  rw [zjt, h, h]
  have e1 : 2 ^ (k + 2) = 4 * 2 ^ k := by rw [Nat.pow_succ, Nat.pow_succ]; lia
  have e2 : 2 ^ (k + 1 + 2) = 8 * 2 ^ k := by rw [Nat.pow_succ, Nat.pow_succ, Nat.pow_succ]; lia
  rw [e1, e2, e]
  generalize 2 ^ k = a
  grind
theorem zte : ∀ k x e, ∃ s, s < 2 ^ k /\ lcg s x % 2 ^ k = e % 2 ^ k := by
 intro k
 induction k with
 | zero => intro x e; exact ⟨0, by simp, by simp [Nat.mod_one]⟩
 | succ k ih =>
  intro x e
  obtain ⟨s, hs, he⟩ := ih x e
  have e2 : 2 ^ (k + 1) = 2 * 2 ^ k := by lia
  have hpos : 0 < 2 ^ k := Nat.two_pow_pos k
  by_cases hc : lcg s x % 2 ^ (k + 1) = e % 2 ^ (k + 1)
  ·exact ⟨s, by lia, hc⟩
  ·refine ⟨s + 2 ^ k, by lia, ?_⟩
   rw [zjt]
   obtain ⟨u, v, h⟩ := zs2 k
   rw [h]
   generalize lcg s x = y at *
   have h3 : (1 + 2 ^ (k + 2) * u) * y + 2 ^ k * (2 * v + 1) = y + 2 ^ k + 2 ^ (k + 1) * (2 * u * y + v) := by
    have e1 : 2 ^ (k + 2) = 4 * 2 ^ k := by rw [Nat.pow_succ, Nat.pow_succ]; lia
    rw [e1, e2]; generalize 2 ^ k = a; grind
   rw [h3, Nat.add_mul_mod_self_left, e2]
   rw [e2] at hc
   generalize ha : 2 ^ k = a at *
   -- y ≡ e mod a, not mod 2a
   have hy := Nat.mod_add_div y a
   have hE := Nat.mod_add_div e a
   rw [he] at hy
   generalize y / a = p at *
   generalize e / a = q at *
   generalize hr : e % a = r at *
   have hra : r < a := by rw [<- hr]; exact Nat.mod_lt _ hpos
   subst hy
   have h5 : ∀ z, (r + a * z) % (2 * a) = if z % 2 = 0 then r else r + a := by
    intro z
    have hz := Nat.mod_add_div z 2
    have h6 : r + a * z = r + a * (z % 2) + (2 * a) * (z / 2) := by
     conv => lhs; rw [<- hz]
     generalize z % 2 = z1; generalize z / 2 = z2; grind
    rw [h6, Nat.add_mul_mod_self_left]
    rcases Nat.mod_two_eq_zero_or_one z with h7 | h7
    ·rw [h7, if_pos rfl]; simp; exact Nat.mod_eq_of_lt (by lia)
    ·rw [h7, if_neg (by lia)]; simp; exact Nat.mod_eq_of_lt (by lia)
   have h7 : r + a * p + a = r + a * (p + 1) := by grind
   rw [<- hE] at hc ⊢
   rw [h7, h5, h5]
   rw [h5, h5] at hc
   by_cases hp2 : p % 2 = 0 <;> by_cases hq2 : q % 2 = 0 <;> simp only [hp2, hq2, if_true, if_false] at hc <;>
    (have : (p + 1) % 2 = 0 \/ (p + 1) % 2 = 1 := Nat.mod_two_eq_zero_or_one _) <;> grind
end L2T
namespace L2T
open PySem SetTable
noncomputable def advM (mask : Nat) (p : Probe) : Probe :=
 if p.more > 0 then { p with j := p.j + 1, more := p.more - 1 } else
 let (i, perturb) := leap mask p.i p.perturb
 { p with j := i, more := runEnd mask i - i, i, perturb }
theorem zb7 (t : SetTable) (p : Probe) : t.advance p = advM t.mask p := rfl
noncomputable def stM (mask i perturb : Nat) : Probe := { j := i, more := runEnd mask i - i, i, perturb, dummy := none }
noncomputable def prM (mask : Nat) (h : Int) : Nat -> Probe
 | 0 => stM mask (bits h % (mask + 1)) (bits h)
 | n + 1 => advM mask (prM mask h n)
noncomputable def posM (mask : Nat) (h : Int) (n : Nat) : Nat := (prM mask h n).j
noncomputable def lpM (mask : Nat) (h : Int) : Nat -> Nat × Nat
 | 0 => (bits h % (mask + 1), bits h)
 | m + 1 => leap mask (lpM mask h m).1 (lpM mask h m).2
noncomputable def lpS (mask : Nat) (h : Int) (m : Nat) : Probe := stM mask (lpM mask h m).1 (lpM mask h m).2
theorem zsk (mask : Nat) : ∀ (r : Nat) (p : Probe) (F : Nat -> Probe), (∀ n, F (n + 1) = advM mask (F n)) -> F 0 = p -> r <= p.more -> F r = { p with j := p.j + r, more := p.more - r } := by
 intro r
 induction r with
 | zero => intro p F hF h0 hr; rw [h0]; rfl
 | succ r ih =>
  intro p F hF h0 hr
  rw [hF, ih p F hF h0 (by lia)]
  unfold advM
  rw [if_pos (by show p.more - r > 0; lia)]
  show ({ p with j := p.j + r + 1, more := p.more - r - 1 } : Probe) = _
  congr 1
theorem zmw (mask i : Nat) : runEnd mask i - i <= 9 := by unfold runEnd; split <;> lia
theorem zob (mask : Nat) (h : Int) (n m : Nat) (hs : prM mask h n = lpS mask h m) :
  prM mask h (n + (runEnd mask (lpM mask h m).1 - (lpM mask h m).1) + 1) = lpS mask h (m + 1) /\
  ∀ r, r <= runEnd mask (lpM mask h m).1 - (lpM mask h m).1 -> posM mask h (n + r) = (lpM mask h m).1 + r := by
 have hrun := fun r hr => zsk mask r (lpS mask h m) (fun k => prM mask h (n + k)) (fun k => rfl) hs hr
 refine ⟨?_, fun r hr => ?_⟩
 ·show advM mask (prM mask h (n + (runEnd mask (lpM mask h m).1 - (lpM mask h m).1))) = _
  rw [hrun (runEnd mask (lpM mask h m).1 - (lpM mask h m).1) (Nat.le_refl _)]
  unfold advM
  rw [if_neg (by show ¬ (lpS mask h m).more - (runEnd mask (lpM mask h m).1 - (lpM mask h m).1) > 0; show ¬ (runEnd mask (lpM mask h m).1 - (lpM mask h m).1) - (runEnd mask (lpM mask h m).1 - (lpM mask h m).1) > 0; lia)]
  rfl
 ·unfold posM
  rw [hrun r hr]; rfl
theorem ztf (mask : Nat) (h : Int) : ∀ m, ∃ n, n <= 10 * m /\ prM mask h n = lpS mask h m := by
 intro m
 induction m with
 | zero => exact ⟨0, by lia, rfl⟩
 | succ m ih =>
  obtain ⟨n, hn, he⟩ := ih
  have := zmw mask (lpM mask h m).1
  exact ⟨_, by lia, (zob mask h n m he).1⟩
theorem zr1 (h : Int) : bits h < 2 ^ 64 := by
 unfold bits
 have : h % (2 ^ 64 : Int) < 2 ^ 64 := Int.emod_lt_of_pos _ (by decide)
 lia
theorem zuc (mask : Nat) (h : Int) : ∀ m, (lpM mask h m).2 = bits h / 32 ^ m := by
 intro m
 induction m with
 | zero => simp [lpM]
 | succ m ih => show (lpM mask h m).2 / 32 = _; rw [ih, Nat.div_div_eq_div_mul, Nat.pow_succ]
theorem zr6 (mask : Nat) (h : Int) (m : Nat) (hm : 13 <= m) : (lpM mask h m).2 = 0 := by
 rw [zuc]
 have h1 := zr1 h
 have h2 : 32 ^ 13 <= 32 ^ m := Nat.pow_le_pow_right (by decide) hm
 exact Nat.div_eq_of_lt (by have : (32 : Nat) ^ 13 = 2 ^ 65 := (by decide); lia)
theorem zu1 (mask : Nat) (h : Int) (m : Nat) : (lpM mask h m).1 < mask + 1 := by
 cases m with
 | zero => exact Nat.mod_lt _ (by lia)
 | succ m => exact Nat.mod_lt _ (by lia)
theorem zuv (mask : Nat) (h : Int) : ∀ s, (lpM mask h (13 + s)).1 = lcg s (lpM mask h 13).1 % (mask + 1) := by
 intro s
 induction s with
 | zero => exact (Nat.mod_eq_of_lt (zu1 mask h 13)).symm
 | succ s ih =>
  show ((lpM mask h (13 + s)).1 * 5 + 1 + (lpM mask h (13 + s)).2 / 32) % (mask + 1) = _
  rw [zr6 mask h (13 + s) (by lia), ih, zjt]
  show _ = (5 * lcg s (lpM mask h 13).1 + 1) % (mask + 1)
  generalize lcg s (lpM mask h 13).1 = y
  simp [Nat.add_mod, Nat.mul_mod, Nat.mul_comm]
theorem zrl (mask k : Nat) (hk : mask + 1 = 2 ^ k) (h : Int) (e : Nat) (he : e <= mask) : ∃ m, m <= 13 + mask /\ (lpM mask h m).1 = e := by
 obtain ⟨s, hs, hl⟩ := zte k (lpM mask h 13).1 e
 refine ⟨13 + s, by lia, ?_⟩
 rw [zuv, hk, hl, <- hk]
 exact Nat.mod_eq_of_lt (by lia)
theorem zof (mask k : Nat) (hk : mask + 1 = 2 ^ k) (h : Int) (e : Nat) (he : e <= mask) : ∃ n, n < 10 * turns mask /\ posM mask h n = e := by
 obtain ⟨m, hm, hl⟩ := zrl mask k hk h e he
 obtain ⟨n, hn, hp⟩ := ztf mask h m
 refine ⟨n, by unfold turns; lia, ?_⟩
 unfold posM; rw [hp]; exact hl
noncomputable def zkb (p q : Probe) : Prop := p.j = q.j /\ p.more = q.more /\ p.i = q.i /\ p.perturb = q.perturb
theorem zha (mask : Nat) {p q : Probe} (h : zkb p q) : zkb (advM mask p) (advM mask q) := by
 obtain ⟨h1, h2, h3, h4⟩ := h
 unfold advM
 rw [h2, h3, h4, h1]
 split
 ·exact ⟨rfl, rfl, rfl, rfl⟩
 ·exact ⟨rfl, rfl, rfl, rfl⟩
theorem zgc (mask : Nat) (p : Probe) : (advM mask p).dummy = p.dummy := by
 unfold advM; split <;> rfl
theorem zkk (t : SetTable) (hashAt : Nat -> Int) (h : Int) : ∀ (fuel : Nat) (p : Probe) (n : Nat), zkb p (prM t.mask h n) ->
    (∃ N, n <= N /\ N < n + fuel /\ t.slot (posM t.mask h N) = .empty) ->
    ∃ m, n <= m /\ (∀ q, n <= q -> q < m -> t.slot (posM t.mask h q) ≠ .empty /\ ∀ i, t.slot (posM t.mask h q) = .live i -> hashAt i ≠ h) /\
      ∃ d, (d = p.dummy \/ ∃ q, n <= q /\ q < m /\ d = some (posM t.mask h q) /\ t.slot (posM t.mask h q) = .dummy) /\
      ((t.slot (posM t.mask h m) = .empty /\ probe.go t hashAt h fuel p = some (.empty (posM t.mask h m) d)) \/
       (∃ i nx, t.slot (posM t.mask h m) = .live i /\ hashAt i = h /\ probe.go t hashAt h fuel p = some (.candidate (posM t.mask h m) i nx) /\ zkb nx (prM t.mask h (m + 1)) /\ nx.dummy = d)) := by
  intro fuel
  induction fuel with
  | zero => rintro p n hs ⟨N, h1, h2, _⟩; omega
  | succ fuel ih =>
    rintro p n hs ⟨N, h1, h2, h3⟩
    have hj : p.j = posM t.mask h n := hs.1
    unfold probe.go
    rw [hj]
    cases hsl : t.slot (posM t.mask h n) with
    | empty =>
      exact ⟨n, Nat.le_refl _, fun q a b => by lia, p.dummy, .inl rfl, .inl ⟨hsl, rfl⟩⟩
    | dummy =>
      have hN : N ≠ n := fun e => by subst e; rw [hsl] at h3; cases h3
      have hs' : zkb (t.advance { p with dummy := some (posM t.mask h n) }) (prM t.mask h (n + 1)) := by
        rw [zb7]; exact zha _ (p:={ p with dummy := some (posM t.mask h n) }) ⟨hs.1, hs.2.1, hs.2.2.1, hs.2.2.2⟩
      obtain ⟨m, hm, hq, d, hd, hr⟩ := ih _ (n + 1) hs' ⟨N, by lia, by lia, h3⟩
      refine ⟨m, by lia, ?_, d, ?_, ?_⟩
      · intro q a b
        rcases Nat.eq_or_lt_of_le a with e | e
        · subst e; exact ⟨(by rw [hsl]; exact fun x => (by cases x)), fun i hi => by rw [hsl] at hi; cases hi⟩
        · exact hq q e b
      · rcases hd with hd | ⟨q, a, b, c, e⟩
        · refine .inr ⟨n, Nat.le_refl _, by lia, ?_, hsl⟩
          rw [hd, zb7, zgc]
        · exact .inr ⟨q, by lia, b, c, e⟩
      · rw [hj] at hr; exact hr
    | live i =>
      dsimp only
      by_cases hh : hashAt i = h
      · refine ⟨n, Nat.le_refl _, fun q a b => by lia, p.dummy, .inl rfl, .inr ⟨i, t.advance p, hsl, hh, ?_, ?_, ?_⟩⟩
        · rw [if_pos (by rw [hh]; exact beq_self_eq_true h)]
        · rw [zb7]; exact zha _ hs
        · rw [zb7, zgc]
      · have hN : N ≠ n := fun e => by subst e; rw [hsl] at h3; cases h3
        obtain ⟨m, hm, hq, d, hd, hr⟩ := ih (t.advance p) (n + 1) (by rw [zb7]; exact zha _ hs) ⟨N, by lia, by lia, h3⟩
        refine ⟨m, by lia, ?_, d, ?_, ?_⟩
        · intro q a b
          rcases Nat.eq_or_lt_of_le a with e | e
          · subst e; exact ⟨(by rw [hsl]; exact fun x => (by cases x)), fun i' hi => by rw [hsl] at hi; cases hi; exact hh⟩
          · exact hq q e b
        · rcases hd with hd | ⟨q, a, b, c, e⟩
          · exact .inl (by rw [hd, zb7, zgc])
          · exact .inr ⟨q, by lia, b, c, e⟩
        · rw [if_neg (by rw [beq_iff_eq]; exact hh)]; exact hr
noncomputable def zhm (t : SetTable) (h : Int) (j : Nat) : Prop := ∃ n, posM t.mask h n = j /\ ∀ m, m < n -> t.slot (posM t.mask h m) ≠ .empty
theorem zgm (mask k : Nat) (hk : mask + 1 = 2 ^ k) (h : Int) : ∀ n, posM mask h n <= mask := by
 have key : ∀ n, (prM mask h n).j + (prM mask h n).more <= mask := by
  intro n
  have hst : ∀ i p, i < mask + 1 -> (stM mask i p).j + (stM mask i p).more <= mask := by
   intro i p hi; show i + (runEnd mask i - i) <= mask; unfold runEnd; split <;> lia
  induction n with
  | zero => exact hst _ _ (Nat.mod_lt _ (by lia))
  | succ n ih =>
   show (advM mask (prM mask h n)).j + (advM mask (prM mask h n)).more <= mask
   unfold advM
   split
   ·show (prM mask h n).j + 1 + ((prM mask h n).more - 1) <= mask; lia
   ·exact hst _ (leap mask (prM mask h n).i (prM mask h n).perturb).2 (Nat.mod_lt _ (by lia))
 intro n
 have := key n
 unfold posM; lia
end L2T
namespace L2T
open PySem SetTable
structure SOk {α : Type} (t : SetTable) (es : List (Int × α)) : Prop where
 ok : TOk t
 room : t.fill * 5 < t.mask * 3
 size : t.place.size = es.length
 reach : ∀ c ∈ t.place.toList.zip es, zhm t c.2.1 c.1
theorem zni (mask : Nat) (owner : Array (Option Nat)) (h : Int) : ∀ (fuel m n : Nat), prM mask h n = lpS mask h m ->
  (∀ q, q < n -> owner.getD (posM mask h q) (some 0) ≠ none) -> (∃ M, m <= M /\ M < m + fuel /\ owner.getD (lpM mask h M).1 (some 0) = none) ->
  ∃ j n', layClean.free mask owner fuel (lpM mask h m).1 (lpM mask h m).2 = some j /\ posM mask h n' = j /\ owner.getD j (some 0) = none /\ ∀ q, q < n' -> owner.getD (posM mask h q) (some 0) ≠ none := by
 intro fuel
 induction fuel with
 | zero => rintro m n hs hq ⟨M, a, b, c⟩; omega
 | succ fuel ih =>
  rintro m n hs hq ⟨M, a, b, c⟩
  obtain ⟨hnx, hrun⟩ := zob mask h n m hs
  unfold layClean.free
  cases hf : (List.range (runEnd mask (lpM mask h m).1 + 1 - (lpM mask h m).1)).find? (fun k => (owner.getD ((lpM mask h m).1 + k) (some 0)).isNone) with
  | some k =>
   obtain ⟨h1, h2, h3⟩ := List.find?_range_eq_some.mp hf
   rw [List.mem_range] at h2
   dsimp only
   refine ⟨_, n + k, rfl, hrun k (by lia), by simpa using h1, ?_⟩
   intro q hqq
   rcases Nat.lt_or_ge q n with hl | hl
   ·exact hq q hl
   ·have := h3 (q - n) (by lia)
    have e := hrun (q - n) (by omega)
    rw [show n + (q - n) = q by lia] at e
    rw [e]
    intro hc; rw [hc] at this; simp at this
  | none =>
   rw [List.find?_eq_none] at hf
   have hocc : ∀ k, k <= runEnd mask (lpM mask h m).1 - (lpM mask h m).1 -> owner.getD ((lpM mask h m).1 + k) (some 0) ≠ none := by
    intro k hk hc
    have hle : (lpM mask h m).1 <= runEnd mask (lpM mask h m).1 := by unfold runEnd; split <;> lia
    exact hf k (List.mem_range.mpr (by lia)) (by rw [hc]; rfl)
   have hM : M ≠ m := fun e => by subst e; exact hocc 0 (Nat.zero_le _) c
   dsimp only
   refine ih (m + 1) _ hnx ?_ ⟨M, by lia, by lia, c⟩
   intro q hqq
   rcases Nat.lt_or_ge q n with hl | hl
   ·exact hq q hl
   ·have e := hrun (q - n) (by lia)
    rw [show n + (q - n) = q by lia] at e
    rw [e]
    exact hocc _ (by lia)
theorem zkd {α β : Type} {f g : α -> Option β} : ∀ l : List α, (∀ x ∈ l, f x = g x) -> l.filterMap f = l.filterMap g := by
 intro l
 induction l with
 | nil => intro _; rfl
 | cons x l ih => intro h; simp only [List.filterMap_cons, h x (.head _), ih (fun y hy => h y (.tail _ hy))]
theorem zp4 {α : Type} : ∀ l : List α, (List.range l.length).filterMap (fun i => l[i]?) = l := by
 intro l
 induction l with
 | nil => rfl
 | cons x l ih =>
  rw [List.length_cons, List.range_succ_eq_map, List.filterMap_cons_some (b:=x) (by rfl), List.filterMap_map]
  congr 1
noncomputable def zcx (mask : Nat) (owner : Array (Option Nat)) : List (Nat × Nat) := (List.range (mask + 1)).filterMap fun j => (owner.getD j none).map (j, ·)
theorem ztl {α β : Type} [DecidableEq α] (f f' : α -> Option β) (x : α) (v : β) (h0 : f x = none) (h1 : f' x = some v) (h2 : ∀ y, y ≠ x -> f' y = f y) :
  ∀ l : List α, l.Nodup -> x ∈ l -> (l.filterMap f').Perm (v :: l.filterMap f) := by
 intro l
 induction l with
 | nil => intro _ h; cases h
 | cons y l ih =>
  intro hn hx
  rw [List.nodup_cons] at hn
  by_cases he : y = x
  ·subst he
   rw [List.filterMap_cons_some h1, List.filterMap_cons_none h0]
   have : l.filterMap f' = l.filterMap f := by
    refine zkd _ fun z hz => h2 z (fun e => hn.1 (e ▸ hz))
   rw [this]
  ·have hx' : x ∈ l := by rcases List.mem_cons.mp hx with e | e; exact absurd e.symm he; exact e
   have hi := ih hn.2 hx'
   cases hf : f y with
   | none => rw [List.filterMap_cons_none (by rw [h2 y he]; exact hf), List.filterMap_cons_none hf]; exact hi
   | some b =>
    rw [List.filterMap_cons_some (by rw [h2 y he]; exact hf), List.filterMap_cons_some hf]
    exact (hi.cons b).trans (List.Perm.swap _ _ _)
theorem zuo {α β : Type} (f : α -> Option β) : ∀ l : List α, (∀ x ∈ l, f x ≠ none) -> (l.filterMap f).length = l.length := by
 intro l
 induction l with
 | nil => intro _; rfl
 | cons x l ih =>
  intro h
  cases hf : f x with
  | none => exact absurd hf (h x (.head _))
  | some b => rw [List.filterMap_cons_some hf, List.length_cons, List.length_cons, ih (fun y hy => h y (.tail _ hy))]
structure LInv (mask : Nat) (hs : List Int) (owner : Array (Option Nat)) : Prop where
 size : owner.size = mask + 1
 perm : ((zcx mask owner).map (·.2)).Perm (List.range hs.length)
 reach : ∀ j i, owner.getD j none = some i -> ∃ h, hs[i]? = some h /\ ∃ n, posM mask h n = j /\ ∀ q, q < n -> owner.getD (posM mask h q) (some 0) ≠ none
theorem zfo (owner : Array (Option Nat)) (j k x : Nat) (d : Option Nat) (hj : j < owner.size) : (owner.setIfInBounds j (some k)).getD x d = if x = j then some k else owner.getD x d := by
 simp only [Array.getD_eq_getD_getElem?, Array.getElem?_setIfInBounds]
 by_cases h : x = j
 ·subst h; simp [hj]
 ·rw [if_neg (fun e => h e.symm), if_neg h]
theorem zg9 (owner : Array (Option Nat)) (j : Nat) (hj : j < owner.size) : owner.getD j (some 0) = owner.getD j none := by
 simp [Array.getD, hj]
theorem zp3 (mask k : Nat) (hk : mask + 1 = 2 ^ k) (hs : List Int) (owner : Array (Option Nat)) (h : Int) (inv : LInv mask hs owner) (hroom : hs.length < mask + 1) :
  ∃ j, layClean.free mask owner (turns mask) (bits h % (mask + 1)) (bits h) = some j /\ LInv mask (hs ++ [h]) (owner.setIfInBounds j (some hs.length)) := by
 have hex : ∃ e, e <= mask /\ owner.getD e none = none := by
  refine Classical.byContradiction fun hc => ?_
  have hl := zuo (fun j => (owner.getD j none).map (fun i => (j, i))) (List.range (mask + 1)) (fun x hx hn => hc ⟨x, by have := List.mem_range.mp hx; lia, by simpa using hn⟩)
  have hp := inv.perm.length_eq
  rw [List.length_map] at hp
  unfold zcx at hp
  rw [hl] at hp
  simp at hp; lia
 obtain ⟨e, he, hn⟩ := hex
 obtain ⟨M, hM, hMe⟩ := zrl mask k hk h e he
 obtain ⟨j, n', hf, hp, hj, hq⟩ := zni mask owner h (turns mask) 0 0 rfl (fun q hq => by lia)
  ⟨M, by lia, by unfold turns; lia, by rw [hMe, zg9 _ _ (by rw [inv.size]; lia)]; exact hn⟩
 have hjm : j <= mask := by rw [<- hp]; exact zgm mask k hk h n'
 have hjs : j < owner.size := by rw [inv.size]; lia
 refine ⟨j, hf, ?_, ?_, ?_⟩
 ·simp [inv.size]
 ·have hone : (zcx mask (owner.setIfInBounds j (some hs.length))).Perm ((j, hs.length) :: zcx mask owner) := by
   unfold zcx
   refine ztl _ _ j (j, hs.length) ?_ ?_ ?_ _ List.nodup_range (List.mem_range.mpr (by lia))
   ·rw [<- zg9 _ _ hjs, hj]; rfl
   ·rw [zfo _ _ _ _ _ hjs, if_pos rfl]; rfl
   ·intro y hy; rw [zfo _ _ _ _ _ hjs, if_neg hy]
  refine (hone.map _).trans ?_
  rw [List.map_cons, List.length_append, List.length_singleton, List.range_succ]
  exact ((List.Perm.cons _ inv.perm)).trans (List.perm_append_comm (l₁:=[hs.length]))
 ·intro x i hx
  rw [zfo _ _ _ _ _ hjs] at hx
  have hne : ∀ y, owner.getD y (some 0) ≠ none -> (owner.setIfInBounds j (some hs.length)).getD y (some 0) ≠ none := by
   intro y hy; rw [zfo _ _ _ _ _ hjs]; split
   ·exact fun c => by cases c
   ·exact hy
  by_cases hxj : x = j
  ·rw [if_pos hxj] at hx
   cases hx
   refine ⟨h, by simp, n', by rw [hp, hxj], fun q hqq => hne _ (hq q hqq)⟩
  ·rw [if_neg hxj] at hx
   obtain ⟨h', e1, n, e2, e3⟩ := inv.reach x i hx
   refine ⟨h', ?_, n, e2, fun q hqq => hne _ (e3 q hqq)⟩
   rw [List.getElem?_append_left (List.getElem?_eq_some_iff.mp e1).1]; exact e1
theorem zpx (mask k : Nat) (hk : mask + 1 = 2 ^ k) : ∀ (hs done : List Int) (owner : Array (Option Nat)), LInv mask done owner -> (done ++ hs).length <= mask ->
  ∃ owner', hs.foldl (fun acc h => do
    let (owner, k) <- acc
    let j <- layClean.free mask owner (turns mask) (bits h % (mask + 1)) (bits h)
    pure (owner.setIfInBounds j (some k), k + 1)) (some (owner, done.length)) = some (owner', (done ++ hs).length) /\ LInv mask (done ++ hs) owner' := by
 intro hs
 induction hs with
 | nil => intro done owner inv _; exact ⟨owner, by simp, by simpa using inv⟩
 | cons h hs ih =>
  intro done owner inv hl
  obtain ⟨j, hf, inv'⟩ := zp3 mask k hk done owner h inv (by simp at hl; lia)
  obtain ⟨ow, h1, h2⟩ := ih (done ++ [h]) _ inv' (by simpa using hl)
  refine ⟨ow, ?_, by simpa using h2⟩
  rw [List.foldl_cons]
  simp only [Option.bind_eq_bind, Option.bind_some, hf, Option.pure_def]
  rw [show (done ++ h :: hs).length = (done ++ [h] ++ hs).length by simp, <- h1]
  simp
theorem zmy (mask k : Nat) (hk : mask + 1 = 2 ^ k) (hs : Array Int) (hl : hs.size <= mask) : ∃ owner, layClean mask hs = some owner /\ LInv mask hs.toList owner := by
 obtain ⟨ow, h1, h2⟩ := zpx mask k hk hs.toList [] (Array.replicate (mask + 1) none) ⟨by simp, by
   have : zcx mask (Array.replicate (mask + 1) none) = [] := by
    unfold zcx
    rw [List.filterMap_eq_nil_iff]
    intro x hx
    simp [Array.getD_eq_getD_getElem?, Array.getElem?_replicate]
    split <;> simp
   rw [this]; simp, fun j i h => by
   simp [Array.getD_eq_getD_getElem?, Array.getElem?_replicate] at h
   split at h <;> simp at h⟩ (by simpa using hl)
 refine ⟨ow, ?_, by simpa using h2⟩
 unfold layClean
 rw [<- Array.foldl_toList]
 rw [show (([] : List Int).length) = 0 from rfl] at h1
 rw [h1]; rfl
theorem znk (g : Nat -> Option Nat) : ∀ l : List Nat, ((l.filterMap fun j => (g j).map (j, ·)).map (·.1)).Sublist l := by
 intro l
 induction l with
 | nil => exact List.Sublist.slnil
 | cons x l ih =>
  cases hg : g x with
  | none => rw [List.filterMap_cons_none (by rw [hg]; rfl)]; exact ih.cons x
  | some v => rw [List.filterMap_cons_some (b:=(x, v)) (by rw [hg]; rfl)]; exact ih.cons_cons x
theorem ztm {α : Type} (g : Nat -> Option α) : ∀ L : List (Nat × Nat), (∀ p ∈ L, g p.2 ≠ none) -> ∀ c ∈ (L.map (·.1)).zip ((L.map (·.2)).filterMap g), ∃ p ∈ L, c.1 = p.1 /\ g p.2 = some c.2 := by
 intro L
 induction L with
 | nil => intro _ c hc; simp at hc
 | cons p L ih =>
  intro h c hc
  cases hg : g p.2 with
  | none => exact absurd hg (h p (.head _))
  | some v =>
   rw [List.map_cons, List.map_cons, List.filterMap_cons_some hg, List.zip_cons_cons] at hc
   rcases List.mem_cons.mp hc with e | e
   ·exact ⟨p, .head _, by rw [e], by rw [e]; exact hg⟩
   ·obtain ⟨p', h1, h2⟩ := ih (fun q hq => h q (.tail _ hq)) c e
    exact ⟨p', .tail _ h1, h2⟩
theorem zsu {α : Type} (mask k : Nat) (hk : mask + 1 = 2 ^ (k + 3)) (hb : mask <= 8191) (finger moves : Nat) (led plain : Bool) (es : Array (Int × α)) (hroom : es.size * 5 < mask * 3) :
  ∃ t order, laid mask finger moves led plain (es.map (·.1)) = some (t, order) /\ t.mask = mask /\ t.dummies = #[] /\ t.led = led /\ t.plain = plain /\ t.finger = finger /\ t.moves = moves /\
   order.toList.Perm (List.range es.size) /\ (order.filterMap (es[·]?)).toList.Perm es.toList /\ (order.filterMap (es[·]?)).size = es.size /\ SOk t (order.filterMap (es[·]?)).toList := by
 obtain ⟨ow, h1, inv⟩ := zmy mask _ hk (es.map (·.1)) (by simp; lia)
 have hlen : (es.map (·.1)).toList.length = es.size := by simp
 have hperm := inv.perm
 rw [hlen] at hperm
 unfold laid
 rw [h1]
 have hL : (List.range (mask + 1)).filterMap (fun j => (ow.getD j none).map (j, ·)) = zcx mask ow := rfl
 simp only [Option.bind_eq_bind, Option.bind_some, Option.pure_def, hL]
 refine ⟨_, _, rfl, rfl, rfl, rfl, rfl, rfl, rfl, hperm, ?_⟩
 have hlist : ((((zcx mask ow).map (·.2)).toArray).filterMap (es[·]?)).toList = ((zcx mask ow).map (·.2)).filterMap (es[·]?) := by simp
 have hp2 : ((((zcx mask ow).map (·.2)).toArray).filterMap (es[·]?)).toList.Perm es.toList := by
  rw [hlist]
  refine (hperm.filterMap _).trans ?_
  have : (List.range es.size).filterMap (fun i => es[i]?) = es.toList := by
   have h := zp4 es.toList
   rw [Array.length_toList] at h
   rw [<- h]
   refine zkd _ fun x _ => (Array.getElem?_toList ..).symm ▸ ?_
   simp
  rw [this]
 refine ⟨hp2, ?_, ?_⟩
 ·rw [<- Array.length_toList, hp2.length_eq, Array.length_toList]
 ·have hsub := znk (fun j => ow.getD j none) (List.range (mask + 1))
  have htok : TOk { mask := mask, place := ((zcx mask ow).map (·.1)).toArray, dummies := #[], finger := finger, led := led, moves := moves, plain := plain } := by
   refine ⟨?_, by simp, ?_, by simp, by simp, ⟨k, hk⟩, hb⟩
   ·show (((zcx mask ow).map (·.1)).toArray).toList.Pairwise (· < ·)
    exact List.Pairwise.sublist hsub List.pairwise_lt_range
   ·intro j hj
    have := hsub.subset hj
    rw [List.mem_range] at this
    show j <= mask; lia
  have hmem : ∀ j, ow.getD j none ≠ none -> j ∈ (zcx mask ow).map (·.1) := by
   intro j hj
   have hjs : j < ow.size := by
    refine Nat.lt_of_not_le fun c => hj ?_
    simp [Array.getD, Nat.not_lt.mpr c]
   cases hg : ow.getD j none with
   | none => exact absurd hg hj
   | some i => exact List.mem_map.mpr ⟨(j, i), List.mem_filterMap.mpr ⟨j, List.mem_range.mpr (by rw [<- inv.size]; exact hjs), by rw [hg]; rfl⟩, rfl⟩
  have hlt : ∀ p ∈ zcx mask ow, ow.getD p.1 none = some p.2 := by
   intro p hp
   obtain ⟨j, _, hj⟩ := List.mem_filterMap.mp hp
   cases hg : ow.getD j none with
   | none => rw [hg] at hj; cases hj
   | some i => rw [hg] at hj; cases hj; exact hg
  have hin : ∀ p ∈ zcx mask ow, p.2 < es.size := by
   intro p hp
   have : p.2 ∈ (zcx mask ow).map (·.2) := List.mem_map.mpr ⟨p, hp, rfl⟩
   exact List.mem_range.mp (hperm.mem_iff.mp this)
  refine ⟨htok, ?_, ?_, ?_⟩
  ·show (((zcx mask ow).map (·.1)).toArray.size + 0) * 5 < mask * 3
   have := hperm.length_eq
   simp at this ⊢
   rw [this]; exact hroom
  ·rw [hp2.length_eq]
   have := hperm.length_eq
   simp at this ⊢
   exact this
  ·intro c hc
   rw [hlist] at hc
   obtain ⟨p, hp, e1, e2⟩ := ztm (fun i => es[i]?) (zcx mask ow) (fun p hp => by
    rw [Array.getElem?_eq_getElem (hin p hp)]; exact fun c => by cases c) c hc
   obtain ⟨h', a1, n, a2, a3⟩ := inv.reach p.1 p.2 (hlt p hp)
   have hh : h' = c.2.1 := by
    rw [Array.toList_map, List.getElem?_map, Array.getElem?_toList, e2] at a1
    simpa using a1.symm
   subst hh
   refine ⟨n, by rw [e1]; exact a2, fun m hm hc => ?_⟩
   have := (zcn htok _).mp hc
   refine this.1 (hmem _ ?_)
   have h3 := a3 m hm
   rwa [zg9 _ _ (by rw [inv.size]; exact Nat.lt_succ_of_le (zgm mask _ hk _ _))] at h3
end L2T
namespace L2T
open PySem SetTable
theorem zlq (t t' : SetTable) (h1 : t'.place = t.place) (h2 : t'.dummies = t.dummies) (j : Nat) : t'.slot j = t.slot j := by
 unfold slot; rw [h1, h2]
theorem zez {t t' : SetTable} (hm : t'.mask = t.mask) (h : ∀ j, t.slot j ≠ .empty -> t'.slot j ≠ .empty) {x : Int} {j : Nat} (hr : zhm t x j) : zhm t' x j := by
 obtain ⟨n, h1, h2⟩ := hr
 exact ⟨n, by rw [hm]; exact h1, fun m hm' => by rw [hm]; exact h _ (h2 m hm')⟩
theorem zm8 {α : Type} {t t' : SetTable} {es : List (Int × α)} (h : SOk t es) (hm : t'.mask = t.mask) (h1 : t'.place = t.place) (h2 : t'.dummies = t.dummies) : SOk t' es := by
 obtain ⟨⟨a1, a2, a3, a4, a5, a6, a7⟩, b, c, d⟩ := h
 refine ⟨⟨by rw [h1]; exact a1, by rw [h2]; exact a2, by rw [h1, hm]; exact a3, by rw [h2, hm]; exact a4, by rw [h1, h2]; exact a5, by rw [hm]; exact a6, by rw [hm]; exact a7⟩, ?_, by rw [h1]; exact c, ?_⟩
 ·unfold fill at *; rw [h1, h2, hm]; exact b
 ·rw [h1]; intro x hx
  exact zez hm (fun j hj => by rw [zlq t t' h1 h2]; exact hj) (d x hx)
theorem zmz {α : Type} (finger moves : Nat) (led : Bool) : SOk (α:=α) (fresh finger moves led) [] := by
 refine ⟨⟨by simp [SetTable.fresh], by simp [SetTable.fresh], by simp [SetTable.fresh], by simp [SetTable.fresh], by simp [SetTable.fresh], ⟨0, by simp [SetTable.fresh]⟩, by simp [SetTable.fresh]⟩, by simp [SetTable.fresh, SetTable.fill], by simp [SetTable.fresh], ?_⟩
 intro c hc; simp at hc
theorem zik (n : Nat) : ∀ (fuel size : Nat), (∃ k, size = 2 ^ (k + 3)) -> n < size * 2 ^ fuel ->
  (∃ k, sizeAbove.go n fuel size = 2 ^ (k + 3)) /\ n < sizeAbove.go n fuel size /\ (sizeAbove.go n fuel size <= size \/ sizeAbove.go n fuel size <= 2 * n) := by
 intro fuel
 induction fuel with
 | zero => intro size hk hn; unfold sizeAbove.go; exact ⟨hk, by simpa using hn, .inl (Nat.le_refl _)⟩
 | succ fuel ih =>
  intro size hk hn
  unfold sizeAbove.go
  by_cases hc : size <= n
  ·rw [if_pos hc]
   obtain ⟨k, hk⟩ := hk
   obtain ⟨h1, h2, h3⟩ := ih (size * 2) ⟨k + 1, by rw [hk, Nat.pow_succ, Nat.pow_succ, Nat.pow_succ, Nat.pow_succ, Nat.pow_succ, Nat.pow_succ, Nat.pow_succ]⟩ (by
    rw [Nat.pow_succ] at hn; rw [Nat.mul_assoc, Nat.mul_comm 2]; exact hn)
   refine ⟨h1, h2, .inr ?_⟩
   rcases h3 with h3 | h3 <;> omega
  ·rw [if_neg hc]
   exact ⟨hk, by lia, .inl (Nat.le_refl _)⟩
theorem ze4 (n : Nat) (hn : n <= 4095) : (∃ k, sizeAbove n - 1 + 1 = 2 ^ (k + 3)) /\ n <= sizeAbove n - 1 /\ 7 <= sizeAbove n - 1 /\ sizeAbove n - 1 <= 8191 /\ sizeAbove n <= 8192 := by
 obtain ⟨⟨k, h1⟩, h2, h3⟩ := zik n 64 8 ⟨0, by decide⟩ (Nat.lt_of_le_of_lt hn (by decide))
 have h1' : sizeAbove n = 2 ^ (k + 3) := h1
 have h2' : n < sizeAbove n := h2
 have h3' : sizeAbove n <= 8 \/ sizeAbove n <= 2 * n := h3
 have hk : 8 <= 2 ^ (k + 3) := by rw [Nat.pow_add]; have := Nat.two_pow_pos k; lia
 refine ⟨⟨k, by omega⟩, by omega, by omega, by omega, by omega⟩
theorem zir {α : Type} (t : SetTable) (es : Array (Int × α)) (wanted : Nat) (h1 : 2 * es.size <= wanted) (h2 : wanted <= 4095) :
  ∃ t' order, t.relaid (es.map (·.1)) wanted = some (t', order) /\ t'.dummies = #[] /\ t'.mask = sizeAbove wanted - 1 /\ t'.led = t.led /\ t'.plain = t.plain /\
   order.toList.Perm (List.range es.size) /\ (order.filterMap (es[·]?)).toList.Perm es.toList /\ (order.filterMap (es[·]?)).size = es.size /\ SOk t' (order.filterMap (es[·]?)).toList := by
 obtain ⟨⟨k, hk⟩, a, b, c, _⟩ := ze4 wanted h2
 obtain ⟨t', order, e1, e2, e3, e4, e5, e6, e7, e8, e9, e10, e11⟩ := zsu (sizeAbove wanted - 1) k hk c t.finger (t.movedTo (sizeAbove wanted - 1)) t.led t.plain es (by lia)
 exact ⟨t', order, e1, e3, e2, e4, e5, e8, e9, e10, e11⟩
theorem zov {α β : Type} : ∀ (p : Nat) (l : List α) (m : List β), (l.zip m).take p = (l.take p).zip (m.take p) := by
 intro p
 induction p with
 | zero => intro l m; simp
 | succ p ih => intro l m; cases l with
  | nil => simp
  | cons a l => cases m with
   | nil => simp
   | cons b m => simp [ih]
theorem zow {α β : Type} : ∀ (p : Nat) (l : List α) (m : List β), (l.zip m).drop p = (l.drop p).zip (m.drop p) := by
 intro p
 induction p with
 | zero => intro l m; simp
 | succ p ih => intro l m; cases l with
  | nil => simp
  | cons a l => cases m with
   | nil => simp
   | cons b m => simp [ih]
theorem zmc {α β : Type} (p : Nat) (a : α) (b : β) : ∀ (l : List α) (m : List β), l.length = m.length ->
  (l.take p ++ a :: l.drop p).zip (m.take p ++ b :: m.drop p) = (l.zip m).take p ++ (a, b) :: (l.zip m).drop p := by
 intro l m h
 rw [List.zip_append (by simp [h]), List.zip_cons_cons, <- zov, <- zow]
theorem za7 {α : Type} (p : Nat) (a : α) (l : List α) : (l.take p ++ a :: l.drop p).Perm (a :: l) := by
 have h : (l.take p ++ a :: l.drop p).Perm (a :: (l.take p ++ l.drop p)) := List.perm_middle
 rw [List.take_append_drop] at h; exact h
theorem zio (xs : Array Nat) (i : Nat) (j : Nat) (hp : xs.toList.Pairwise (· < ·)) (h : xs[i]? = some j) (x : Nat) : x ∈ (eraseAt xs i).toList ↔ x ∈ xs.toList /\ x ≠ j := by
 rw [zcf]
 rw [<- Array.getElem?_toList] at h
 obtain ⟨hi, hx⟩ := List.getElem?_eq_some_iff.mp h
 have hsp : xs.toList = xs.toList.take i ++ j :: xs.toList.drop (i + 1) := by
  rw [<- hx, List.getElem_cons_drop, List.take_append_drop]
 have hp' := hp
 rw [hsp, List.pairwise_append, List.pairwise_cons] at hp'
 obtain ⟨p1, ⟨p2, p3⟩, p4⟩ := hp'
 rw [List.mem_append]
 constructor
 ·rintro (h1 | h1)
  ·have := p4 x h1 j (.head _); exact ⟨List.mem_of_mem_take h1, by lia⟩
  ·have := p2 x h1; exact ⟨List.mem_of_mem_drop h1, by lia⟩
 ·rintro ⟨h1, h2⟩
  rw [hsp, List.mem_append] at h1
  rcases h1 with h1 | h1
  ·exact .inl h1
  ·rcases List.mem_cons.mp h1 with e | e
   ·exact absurd e h2
   ·exact .inr e
theorem zq0 {α : Type} (t : SetTable) (es : Array (Int × α)) (h : Int) (x : α) (s : Nat) (ok : SOk t es.toList) (hs : t.slot s = .empty \/ t.slot s = .dummy) (hm : s <= t.mask) (hr : zhm t h s) :
  TOk (t.put s).1 /\ (t.put s).1.mask = t.mask /\ (t.put s).1.place.size = (insertAt es (t.put s).2 (h, x)).size /\
  (∀ c ∈ (t.put s).1.place.toList.zip (insertAt es (t.put s).2 (h, x)).toList, zhm (t.put s).1 c.2.1 c.1) /\
  (t.put s).1.fill <= t.fill + 1 /\ (t.slot s = .dummy -> (t.put s).1.fill = t.fill) /\ (insertAt es (t.put s).2 (h, x)).toList.Perm ((h, x) :: es.toList) /\
  (t.put s).1.led = t.led /\ (t.put s).1.plain = t.plain := by
 obtain ⟨⟨a1, a2, a3, a4, a5, a6, a7⟩, b, c, d⟩ := ok
 have tok : TOk t := ⟨a1, a2, a3, a4, a5, a6, a7⟩
 have hnp : s ∉ t.place.toList := by
  rcases hs with hs | hs
  ·exact ((zcn tok s).mp hs).1
  ·exact a5 s ((zdu tok s).mp hs)
 have hb := (zdt t.place s a1).1
 have hbe : below t.place s <= es.size := by have : t.place.size = es.size := (by simpa using c); lia
 have hd' : ∀ y, y ∈ (if has t.dummies s = true then eraseAt t.dummies (below t.dummies s) else t.dummies).toList ↔ y ∈ t.dummies.toList /\ y ≠ s := by
  intro y
  by_cases hh : has t.dummies s = true
  ·rw [if_pos hh]
   exact zio t.dummies _ s a2 ((zct _ _ a2).mpr ((zfu _ _ a2).mp hh)) y
  ·rw [if_neg hh]
   exact ⟨fun hy => ⟨hy, fun e => hh ((zfu _ _ a2).mpr (e ▸ hy))⟩, fun hy => hy.1⟩
 have hpl : (t.put s).1.place.toList = t.place.toList.take (below t.place s) ++ s :: t.place.toList.drop (below t.place s) := za2 _ _ _ hb
 have hmp : ∀ y, y ∈ (t.put s).1.place.toList ↔ y = s \/ y ∈ t.place.toList := by
  intro y; rw [hpl, (za7 _ _ _).mem_iff, List.mem_cons]
 have hmd : ∀ y, y ∈ (t.put s).1.dummies.toList ↔ y ∈ t.dummies.toList /\ y ≠ s := hd'
 have htok : TOk (t.put s).1 := by
  refine ⟨zgl _ _ a1 hnp, ?_, ?_, ?_, ?_, a6, a7⟩
  ·show (if has t.dummies s = true then eraseAt t.dummies (below t.dummies s) else t.dummies).toList.Pairwise (· < ·)
   split
   ·rw [zcf]
    refine List.Pairwise.sublist ?_ a2
    have : (t.dummies.toList.take (below t.dummies s) ++ t.dummies.toList.drop (below t.dummies s + 1)).Sublist (t.dummies.toList.take (below t.dummies s) ++ t.dummies.toList.drop (below t.dummies s)) :=
     List.Sublist.append (List.Sublist.refl _) (by rw [<- List.drop_drop]; exact List.drop_sublist _ _)
    rw [List.take_append_drop] at this; exact this
   ·exact a2
  ·intro j hj; rcases (hmp j).mp hj with e | e
   ·rw [e]; exact hm
   ·exact a3 j e
  ·intro j hj; exact a4 j ((hmd j).mp hj).1
  ·intro j hj hc
   rcases (hmp j).mp hc with e | e
   ·exact ((hmd j).mp hj).2 e
   ·exact a5 j ((hmd j).mp hj).1 e
 have hmono : ∀ j, t.slot j ≠ .empty -> (t.put s).1.slot j ≠ .empty := by
  intro j hj hc
  obtain ⟨c1, c2⟩ := (zcn htok j).mp hc
  refine hj ((zcn tok j).mpr ⟨fun e => c1 ((hmp j).mpr (.inr e)), fun e => ?_⟩)
  by_cases he : j = s
  ·exact c1 ((hmp j).mpr (.inl he))
  ·exact c2 ((hmd j).mpr ⟨e, he⟩)
 refine ⟨htok, rfl, ?_, ?_, ?_, ?_, ?_, rfl, rfl⟩
 ·show (insertAt t.place (below t.place s) s).size = (insertAt es (below t.place s) (h, x)).size
  rw [<- Array.length_toList, <- Array.length_toList, za2 _ _ _ hb, za2 _ _ _ hbe, (za7 _ _ _).length_eq, (za7 _ _ _).length_eq]
  simpa using c
 ·intro e he
  rw [hpl] at he
  have he' : e ∈ (t.place.toList.take (below t.place s) ++ s :: t.place.toList.drop (below t.place s)).zip (insertAt es (below t.place s) (h, x)).toList := he
  rw [za2 _ _ _ hbe, zmc _ _ _ _ _ (by simpa using c), (za7 _ _ _).mem_iff, List.mem_cons] at he'
  rcases he' with e1 | e1
  ·rw [e1]; exact zez (t:=t) (t':=(t.put s).1) rfl hmono hr
  ·exact zez (t:=t) (t':=(t.put s).1) rfl hmono (d e e1)
 ·show (insertAt t.place (below t.place s) s).size + (if has t.dummies s = true then eraseAt t.dummies (below t.dummies s) else t.dummies).size <= t.fill + 1
  have h1 : (insertAt t.place (below t.place s) s).size = t.place.size + 1 := by
   rw [<- Array.length_toList, za2 _ _ _ hb, (za7 _ _ _).length_eq]; simp
  have h2 : (if has t.dummies s = true then eraseAt t.dummies (below t.dummies s) else t.dummies).size <= t.dummies.size := by
   split
   ·rw [<- Array.length_toList, zcf]; simp; omega
   ·exact Nat.le_refl _
  unfold fill; lia
 ·intro hdm
  show (insertAt t.place (below t.place s) s).size + (if has t.dummies s = true then eraseAt t.dummies (below t.dummies s) else t.dummies).size = t.fill
  have h1 : (insertAt t.place (below t.place s) s).size = t.place.size + 1 := by
   rw [<- Array.length_toList, za2 _ _ _ hb, (za7 _ _ _).length_eq]; simp
  have hin := (zdu tok s).mp hdm
  rw [if_pos ((zfu _ _ a2).mpr hin)]
  have hlt := (Array.getElem?_eq_some_iff.mp ((zct _ _ a2).mpr hin)).1
  have h2 : (eraseAt t.dummies (below t.dummies s)).size + 1 = t.dummies.size := by
   rw [<- Array.length_toList, zcf]; simp; lia
  unfold fill; lia
 ·show (insertAt es (below t.place s) (h, x)).toList.Perm ((h, x) :: es.toList)
  rw [za2 _ _ _ hbe]; exact za7 _ _ _
end L2T
namespace L2
open PySem PySem.Spec PyProof.Rows L2T
inductive SK where
 | one (k : Key)
 | many (ks : List Key)
 deriving DecidableEq
noncomputable def SK.flat : SK -> Bool
 | .one _ => true
 | .many _ => false
section
variable (prog : Program) (w : World)
noncomputable def SK.is (h : Heap) : SK -> Value -> Prop
 | .one k, v => (zak prog w).is k v = true
 | .many ks, v => ∃ a, v = .ref a /\ IsTupleKey (zak prog w) h ks a
noncomputable def SK.hash : SK -> Int
 | .one k => (zak prog w).hash k
 | .many ks => tupleKeyHash (zak prog w) ks
inductive Es (h : Heap) : List SK -> List (Int × Value) -> Prop
 | nil : Es h [] []
 | cons {k : SK} {e : Int × Value} {ks : List SK} {es : List (Int × Value)} : e.1 = k.hash prog w -> k.is prog w h e.2 -> Es h ks es -> Es h (k :: ks) (e :: es)
noncomputable def zhs (h h' : Heap) : Prop := ∀ b o, o.cls = .type "tuple" -> h.get? b = some o -> h'.get? b = some o
noncomputable def led0 : Bool := !w.params.followText "set-order"
structure SetO (h : Heap) (o : Obj) (ks : List SK) (es : Array (Int × Value)) (ep : Nat) (t : SetTable) : Prop where
 ex : o.ExactSet
 data : o.data = .set es ep t
 tab : SOk t es.toList
 ent : Es prog w h ks es.toList
 nod : ks.Nodup
 small : ks.length <= 1000
 led : t.led = led0 w
 kind : ∃ f, ∀ k ∈ ks, k.flat = f
noncomputable def SetE (h : Heap) (a : Addr) (ks : List SK) (es : Array (Int × Value)) : Prop := ∃ o ep t, h.get? a = some o /\ SetO prog w h o ks es ep t
end
section
variable {prog : Program} {w : World} {h h' : Heap}
theorem SK.is_mono {k : SK} {v : Value} (K : zhs h h') (x : k.is prog w h v) : k.is prog w h' v := by
 cases k with
 | one k => exact x
 | many ks =>
  obtain ⟨a, rfl, o, its, n, e, c, d, i⟩ := x
  exact ⟨a, rfl, o, its, n, K a o c e, c, d, i⟩
theorem Es.mono {ks : List SK} {es : List (Int × Value)} (K : zhs h h') (x : Es prog w h ks es) : Es prog w h' ks es := by
 induction x with
 | nil => exact .nil
 | cons a b _ ih => exact .cons a (SK.is_mono K b) ih
theorem Es.length {ks : List SK} {es : List (Int × Value)} (x : Es prog w h ks es) : ks.length = es.length := by
 induction x with
 | nil => rfl
 | cons a b _ ih => simp [ih]
theorem Es.get {ks : List SK} {es : List (Int × Value)} (x : Es prog w h ks es) : ∀ (i : Nat) (e : Int × Value), es[i]? = some e -> ∃ k, ks[i]? = some k /\ e.1 = k.hash prog w /\ k.is prog w h e.2 := by
 induction x with
 | nil => intro i e he; simp at he
 | cons a b _ ih =>
  intro i e he
  cases i with
  | zero => simp at he; subst he; exact ⟨_, rfl, a, b⟩
  | succ i => exact ih i e he
theorem Es.perm {ks : List SK} {es es' : List (Int × Value)} (x : Es prog w h ks es) (p : es'.Perm es) : ∃ ks', ks'.Perm ks /\ Es prog w h ks' es' := by
 have p' := p.symm
 clear p
 induction p' generalizing ks with
 | nil => exact ⟨ks, .refl _, x⟩
 | cons e _ ih =>
  cases x with
  | cons a b y =>
   obtain ⟨k2, q, z⟩ := ih y
   exact ⟨_ :: k2, q.cons _, .cons a b z⟩
 | swap e f l =>
  cases x with
  | cons a b y => cases y with
   | cons c d z => exact ⟨_ :: _ :: _, List.Perm.swap _ _ _, .cons c d (.cons a b z)⟩
 | trans _ _ ih1 ih2 =>
  obtain ⟨k1, q1, z1⟩ := ih1 x
  obtain ⟨k2, q2, z2⟩ := ih2 z1
  exact ⟨k2, q2.trans q1, z2⟩
theorem SetO.fits {o : Obj} {ks : List SK} {es : Array (Int × Value)} {ep : Nat} {t : SetTable} (S : SetO prog w h o ks es ep t) : t.fits es.size = true := by
 have h1 := S.tab.size
 have h2 := S.tab.room
 simp only [SetTable.fits, Bool.and_eq_true, beq_iff_eq, decide_eq_true_eq]
 exact ⟨by simpa using h1, by lia⟩
theorem SetO.mono {o : Obj} {ks : List SK} {es : Array (Int × Value)} {ep : Nat} {t : SetTable} (K : zhs h h') (S : SetO prog w h o ks es ep t) : SetO prog w h' o ks es ep t :=
 ⟨S.ex, S.data, S.tab, S.ent.mono K, S.nod, S.small, S.led, S.kind⟩
theorem zec {a : Addr} {o : Obj} {es : Array (Int × Value)} {ep : Nat} {t : SetTable} (ho : h.get? a = some o) (hd : o.ExactSet) (hs : Heap.SameBut a h h') : zhs h h' := by
 intro b u c e
 have hne : b ≠ a := by
  rintro rfl
  rw [ho] at e; cases e
  rw [hd.1] at c; exact absurd c (by decide)
 exact (hs.2 b hne).trans e
end
end L2
namespace L2
open PySem PySem.Spec PyProof.Rows L2T
theorem zli (b : Addr) : isSame (.ref b) (.ref b) = pure true := by
 show (if (b == b) = true then (pure true : Sem Bool) else _) = _
 rw [if_pos (beq_self_eq_true b)]
section
variable {prog : Program} {w : World} {A : Around} {E : Value -> Shared -> Prop} {s : Shared}
theorem zhf {M : Model} {a : Addr} {o : Obj} {ks : List SK} {es : Array (Int × Value)} {ep : Nat} {t : SetTable} {Q : Array (Int × Value) × Nat × SetTable -> Shared -> Prop}
  (ho : s.heap.get? a = some o) (S : SetO prog w s.heap o ks es ep t) (q : Q (es, ep, t) s) : wpAny (model prog w) A (setState a) Q E s :=
 wpAny_setState_of ho S.data S.fits q
theorem zq1 {ks : List Key} {v : Value} {a : Addr} {Q : Bool -> Shared -> Prop} (hk : IsTupleKey (zak prog w) s.heap ks a) (h : Q false s) : wpAny (model prog w) A (ofAClassStatement 8 (.ref a)) Q E s := by
 have hT := hk.typeIs
 obtain ⟨o, its, n, ho, _, hd, hi⟩ := hk
 unfold ofAClassStatement
 refine wpAny_bind (wpAny_typeOf hT ?_)
 show wpAny _ _ ((if ("tuple" == "tuple") = true then pure true else isSubtype (.type "tuple") (.type "tuple")) >>= _) Q E s
 refine wpAny_bind (wpAny_pure ?_)
 show wpAny _ _ (seqItems? (.ref a) >>= _) Q E s
 refine wpAny_bind (wpAny_seqItems ho hd ?_)
 show wpAny _ _ (forIn its _ _ >>= _) Q E s
 refine wpAny_bind ?_
 rw [<- Array.forIn_toList]
 refine wpAny_forIn_list _ (fun rest r s' => r.1 = none /\ s' = s /\ ∀ v ∈ rest, carriedByValue v = true) _ ?_ ?_ _ _ ⟨rfl, rfl, hi.byValue⟩
 ·rintro v rest r s' ⟨hr, rfl, hall⟩
  have hv := hall v List.mem_cons_self
  have e : ofAClassStatement 7 v = pure false := by
   cases v <;> first | rfl | (simp [carriedByValue] at hv)
  show wpAny _ _ (ofAClassStatement 7 v >>= _) _ _ _
  rw [e]
  refine wpAny_bind (wpAny_pure ?_)
  simp only [Bool.false_eq_true, if_false]
  exact wpAny_pure ⟨rfl, rfl, fun u hu' => hall u (List.mem_cons_of_mem _ hu')⟩
 ·rintro ⟨r1, r2⟩ s' ⟨hr, rfl, _⟩
  simp only at hr
  subst hr
  exact wpAny_pure h
theorem zp2 {kk : List Key} {a : Addr} {Q : Bool -> Shared -> Prop} (hk : IsTupleKey (zak prog w) s.heap kk a) (h : Q false s) :
  ∀ ys : List Value, (∀ y ∈ ys, ∃ b ks, y = .ref b /\ IsTupleKey (zak prog w) s.heap ks b) -> wpAny (model prog w) A (searchCouldBeSeen (.ref a) ys) Q E s := by
 intro ys hys
 unfold searchCouldBeSeen
 refine wpAny_bind ?_
 refine wpAny_forIn_list _ (fun rest r s' => r.1 = none /\ s' = s /\ ∀ y ∈ rest, ∃ b ks, y = .ref b /\ IsTupleKey (zak prog w) s.heap ks b) _ ?_ ?_ _ _ ⟨rfl, rfl, hys⟩
 ·rintro y rest r s' ⟨hr, rfl, hall⟩
  obtain ⟨b, ks, rfl, hb⟩ := hall y List.mem_cons_self
  have hrest : ∀ y ∈ rest, ∃ b ks, y = .ref b /\ IsTupleKey (zak prog w) s'.heap ks b := fun y hy => hall y (List.mem_cons_of_mem _ hy)
  dsimp only
  by_cases hab : (a == b) = true
  ·rw [if_pos (by rw [hab]; rfl)]
   exact wpAny_pure ⟨rfl, rfl, hrest⟩
  ·rw [if_neg (by rw [Bool.not_eq_true] at hab; rw [hab]; simp [carriedByValue])]
   refine wpAny_bind (wpAny_eqIsQuiet_tuple hk ?_)
   simp only [Bool.not_true, Bool.false_eq_true, if_false]
   refine wpAny_bind (wpAny_eqIsQuiet_tuple hb ?_)
   simp only [Bool.not_true, Bool.false_eq_true, if_false]
   refine wpAny_bind (zq1 (v:=.none) hk ?_)
   simp only [Bool.false_eq_true, if_false]
   refine wpAny_bind (zq1 (v:=.none) hb ?_)
   simp only [Bool.false_eq_true, if_false]
   exact wpAny_pure ⟨rfl, rfl, hrest⟩
 ·rintro ⟨r1, r2⟩ s' ⟨hr, rfl, _⟩
  simp only at hr
  subst hr
  exact wpAny_pure h
theorem zqb {a : Addr} {o : Obj} {ks : List SK} {es : Array (Int × Value)} {ep : Nat} {t : SetTable} {x : Value} {kk : List Key} {adding : Bool} {Q : SetFound -> Shared -> Prop} (hu : A.units < cLine)
  (ho : s.heap.get? a = some o) (S : SetO prog w s.heap o ks es ep t) (hk : ∀ k ∈ ks, k.flat = false) (hx : (SK.many kk).is prog w s.heap x)
  (found : ∀ i, ks[i]? = some (.many kk) -> Q (.there (if adding then none else some i)) s)
  (free : SK.many kk ∉ ks -> ∀ sl wd, sl <= t.mask -> zhm t (SK.hash prog w (.many kk)) sl -> (wd = true -> t.slot sl = .dummy) -> (wd = false -> t.slot sl = .empty) -> Q (.free sl wd) s) :
  ∀ (fuel n : Nat) (stand : Option SetTable.Probe), (stand = none -> n = 0) ->
   (∀ p, stand = some p -> zkb p (prM t.mask (SK.hash prog w (.many kk)) n) /\ (p.dummy = none \/ ∃ q, q < n /\ p.dummy = some (posM t.mask (SK.hash prog w (.many kk)) q) /\ t.slot (posM t.mask (SK.hash prog w (.many kk)) q) = .dummy)) ->
   (∀ q, q < n -> t.slot (posM t.mask (SK.hash prog w (.many kk)) q) ≠ .empty /\ ∀ i, t.slot (posM t.mask (SK.hash prog w (.many kk)) q) = .live i -> ks[i]? ≠ some (.many kk)) ->
   (∃ N, n <= N /\ N < n + fuel /\ N < 10 * SetTable.turns t.mask /\ t.slot (posM t.mask (SK.hash prog w (.many kk)) N) = .empty) ->
   wpAny (model prog w) A (setSearchFrom a x (SK.hash prog w (.many kk)) adding fuel stand) Q E s := by
 generalize hH : SK.hash prog w (.many kk) = hh at *
 have tok := S.tab.ok
 obtain ⟨kp, hpow⟩ := tok.pow
 obtain ⟨ax, rfl, hax⟩ := hx
 have hgw : t.gaveWay = false := by
  unfold SetTable.gaveWay
  rw [Nat.pow_succ] at hpow
  rw [beq_eq_false_iff_ne]; lia
 have hent : ∀ (i : Nat) (h : Int) (y : Value), es[i]? = some (h, y) -> ∃ (b : Addr) (k2 : List Key), y = Value.ref b /\ IsTupleKey (zak prog w) s.heap k2 b /\ ks[i]? = some (SK.many k2) /\ h = SK.hash prog w (SK.many k2) := by
  intro i h y he
  obtain ⟨k, h1, h2, h3⟩ := S.ent.get i (h, y) (by rw [Array.getElem?_toList]; exact he)
  have hf := hk k (List.mem_of_getElem? h1)
  cases k with
  | one k => simp [SK.flat] at hf
  | many k2 => obtain ⟨b, rfl, hb⟩ := h3; exact ⟨b, k2, rfl, hb, h1, h2⟩
 intro fuel
 induction fuel with
 | zero => rintro n stand _ _ _ ⟨N, h1, h2, _⟩; lia
 | succ fuel ih =>
  rintro n stand hst hsp hq ⟨N, n1, n2, n3, n4⟩
  unfold setSearchFrom
  refine wpAny_bind (zhf (M:=model prog w) ho S ?_)
  dsimp only
  rw [hgw]
  simp only [Bool.false_eq_true, if_false]
  have hstart : zkb (stand.getD (t.probeStart hh)) (prM t.mask hh n) /\ ((stand.getD (t.probeStart hh)).dummy = none \/ ∃ q, q < n /\ (stand.getD (t.probeStart hh)).dummy = some (posM t.mask hh q) /\ t.slot (posM t.mask hh q) = .dummy) := by
   cases stand with
   | none => rw [hst rfl]; exact ⟨⟨rfl, rfl, rfl, rfl⟩, .inl rfl⟩
   | some p => exact hsp p rfl
  obtain ⟨m, m1, m2, d, hd, hr⟩ := zkk t (fun i => (es[i]?.map (·.1)).getD 0) hh (10 * SetTable.turns t.mask) _ n hstart.1 ⟨N, n1, by lia, n4⟩
  have hd' : d = none \/ ∃ q, q < m /\ d = some (posM t.mask hh q) /\ t.slot (posM t.mask hh q) = .dummy := by
   rcases hd with hd | ⟨q, q1, q2, q3, q4⟩
   ·rcases hstart.2 with e | ⟨q, q1, q2, q3⟩
    ·exact .inl (hd.trans e)
    ·exact .inr ⟨q, by lia, hd.trans q2, q3⟩
   ·exact .inr ⟨q, q2, q3, q4⟩
  have hne : ∀ q, q < m -> t.slot (posM t.mask hh q) ≠ .empty := fun q hqm => by
   rcases Nat.lt_or_ge q n with hl | hl
   ·exact (hq q hl).1
   ·exact (m2 q hl hqm).1
  rcases hr with ⟨hemp, hr⟩ | ⟨i, nx, hlive, hhash, hr, hsn, hdn⟩
  ·-- an empty slot: it is not there
   have habs : SK.many kk ∉ ks := by
    intro hin
    obtain ⟨i, hi⟩ := List.mem_iff_getElem?.mp hin
    have hil : i < ks.length := (List.getElem?_eq_some_iff.mp hi).1
    have hie : i < es.size := by have := S.ent.length; simp at this; lia
    have hip : i < t.place.size := by have := S.tab.size; simp at this; lia
    have hpl : t.place[i]? = some t.place[i] := Array.getElem?_eq_getElem hip
    have hes : es[i]? = some es[i] := Array.getElem?_eq_getElem hie
    obtain ⟨b, k2, hy, hb, hki, hhi⟩ := hent i es[i].1 es[i].2 hes
    have hkk : k2 = kk := by rw [hi] at hki; cases hki; rfl
    subst hkk
    have hreach := S.tab.reach (t.place[i], es[i]) (by
     rw [List.mem_iff_getElem?]
     refine ⟨i, ?_⟩
     rw [List.getElem?_zip_eq_some]
     exact ⟨by rw [Array.getElem?_toList]; exact hpl, by rw [Array.getElem?_toList]; exact hes⟩)
    obtain ⟨n', e1, e2⟩ := hreach
    dsimp only at e1 e2
    rw [hhi, hH] at e1 e2
    have hl : t.slot (posM t.mask hh n') = .live i := by rw [e1]; exact (zc9 tok _ i).mpr hpl
    rcases Nat.lt_trichotomy n' m with c | c | c
    ·rcases Nat.lt_or_ge n' n with c2 | c2
     ·exact (hq n' c2).2 i hl hi
     ·refine (m2 n' c2 c).2 i hl ?_
      rw [hes]; show es[i].1 = hh; rw [hhi, hH]
    ·subst c; rw [hl] at hemp; cases hemp
    ·exact e2 m c hemp
   generalize hX : t.probe _ hh _ = pX
   have hX2 := hX.symm.trans hr
   subst hX2
   rcases hd' with rfl | ⟨q, q1, rfl, q2⟩
   ·exact wpAny_pure (free habs _ false (zgm _ _ hpow hh m) ⟨m, rfl, hne⟩ (fun e => by cases e) (fun _ => hemp))
   ·dsimp only
    rw [q2]
    have : (adding && (SetTable.Slot.dummy != SetTable.Slot.dummy)) = false := by cases adding <;> decide
    rw [this]
    simp only [Bool.false_eq_true, if_false]
    exact wpAny_pure (free habs _ true (zgm _ _ hpow hh q) ⟨q, rfl, fun m' hm' => hne m' (by lia)⟩ (fun _ => q2) (fun e => by cases e))
  ·have hpl := (zc9 tok _ i).mp hlive
   have hip : i < t.place.size := (Array.getElem?_eq_some_iff.mp hpl).1
   have hie : i < es.size := by have := S.tab.size; simp at this; lia
   have hes : es[i]? = some es[i] := Array.getElem?_eq_getElem hie
   obtain ⟨b, k2, hy, hb, hki, hhi⟩ := hent i es[i].1 es[i].2 hes
   generalize hX : t.probe _ hh _ = pX
   have hX2 := hX.symm.trans hr
   subst hX2
   dsimp only
   have hall : ∀ y ∈ (es.filter (·.1 == hh)).toList.map (·.2), ∃ (b : Addr) (k3 : List Key), y = Value.ref b /\ IsTupleKey (zak prog w) s.heap k3 b := by
    intro y hy
    obtain ⟨e, he, rfl⟩ := List.mem_map.mp hy
    have he' := (Array.mem_filter.mp (Array.mem_toList_iff.mp he)).1
    obtain ⟨j, hj⟩ := List.mem_iff_getElem?.mp (Array.mem_toList_iff.mpr he')
    rw [Array.getElem?_toList] at hj
    obtain ⟨b, k3, hy, hb, _⟩ := hent j e.1 e.2 hj
    exact ⟨b, k3, hy, hb⟩
   by_cases hl : t.led = true
   case' pos => simp only [hl, Bool.not_true, Bool.false_eq_true, if_false]
   case' neg =>
    rw [Bool.not_eq_true] at hl
    simp only [hl, Bool.not_false, if_true]
    refine wpAny_bind (zp2 hax ?_ _ hall)
    simp only [Bool.false_eq_true, if_false]
   all_goals
     rw [hes]
     dsimp only
     rw [hy]
     refine wpAny_bind (wpAny_holding (wpAny_eqBool_tuple hu hb hax ?_))
     refine wpAny_bind (zhf (M:=model prog w) ho S ?_)
     dsimp only
     by_cases hkk : k2 = kk
     ·subst hkk
      have hQ := found i hki
      rw [decide_eq_true rfl]
      cases adding with
      | true => exact wpAny_pure hQ
      | false =>
       have hsm : t.sameMemory t.moves t.mask = some true := by unfold SetTable.sameMemory; simp
       simp only [Bool.false_and, Bool.false_eq_true, if_false, hsm, if_true, hlive, hes, hy]
       have hself := zli b
       rw [hself]
       exact wpAny_bind (wpAny_pure (wpAny_bind (wpAny_pure (wpAny_pure hQ))))
     ·rw [decide_eq_false hkk]
      have hsm : t.sameMemory t.moves t.mask = some true := by unfold SetTable.sameMemory; simp
      simp only [Bool.and_false, Bool.false_eq_true, if_false, hsm, if_true, hlive, hes, hy]
      have hself := zli b
      rw [hself]
      refine wpAny_bind (wpAny_pure (wpAny_bind (wpAny_pure ?_)))
      have hmN : m < N := by
       refine Nat.lt_of_not_le fun c => ?_
       rcases Nat.eq_or_lt_of_le c with e | e
       ·rw [<- e, n4] at hlive; cases hlive
       ·exact hne N e n4
      refine ih (m + 1) (some nx) (fun e => by cases e) (fun p hp => ?_) (fun q hqm => ?_) ⟨N, by lia, by lia, n3, n4⟩
      ·cases hp
       refine ⟨hsn, ?_⟩
       rw [hdn]
       rcases hd' with e | ⟨q, q1, q2, q3⟩
       ·exact .inl e
       ·exact .inr ⟨q, by lia, q2, q3⟩
      ·rcases Nat.lt_or_ge q m with c | c
       ·refine ⟨hne q c, fun j hj hkj => ?_⟩
        rcases Nat.lt_or_ge q n with c2 | c2
        ·exact (hq q c2).2 j hj hkj
        ·have hpj := (zc9 tok _ j).mp hj
         have hjp : j < t.place.size := (Array.getElem?_eq_some_iff.mp hpj).1
         have hje : j < es.size := by have := S.tab.size; simp at this; lia
         have hej : es[j]? = some es[j] := Array.getElem?_eq_getElem hje
         obtain ⟨_, k3, _, _, hkj', hhj⟩ := hent j es[j].1 es[j].2 hej
         rw [hkj] at hkj'; cases hkj'
         refine (m2 q c2 c).2 j hj ?_
         rw [hej]; show es[j].1 = hh; rw [hhj, hH]
       ·have : q = m := by lia
        subst this
        refine ⟨by rw [hlive]; exact fun e => (by cases e), fun j hj hkj => ?_⟩
        rw [hlive] at hj; cases hj
        rw [hki] at hkj; cases hkj; exact hkk rfl
end
end L2
namespace L2
open PySem PySem.Spec PyProof.Rows L2T
section
variable {prog : Program} {w : World} {h : Heap}
theorem zg4 {a : Addr} {o : Obj} {es : Array (Int × Value)} {ep : Nat} {t : SetTable} (ho : h.get? a = some o) (hd : o.data = .set es ep t) (e1 : Array (Int × Value)) (t1 : SetTable) :
  (h.update a (Obj.putSet e1 t1)).get? a = some { o with data := .set e1 (ep + 1) t1 } := by
 have z := Heap.get?_update_self (Obj.putSet e1 t1) ho (by rw [putSet_of e1 t1 hd]; rfl)
 rw [putSet_of e1 t1 hd] at z
 exact z
theorem Es.flats {ks : List SK} {es : List (Int × Value)} (x : Es prog w h ks es) (hf : ∀ k ∈ ks, k.flat = true) : ElemsOf (zak prog w) es := by
 intro e he
 obtain ⟨i, hi⟩ := List.mem_iff_getElem?.mp he
 obtain ⟨k, a, b, c⟩ := x.get i e hi
 have hk := hf k (List.mem_of_getElem? a)
 cases k with
 | many _ => simp [SK.flat] at hk
 | one k =>
  refine ⟨⟨k, c, b⟩, ?_⟩
  rcases zar c with ⟨j, t, _, e2⟩ | ⟨y, t, _, e2⟩ <;> rw [e2] <;> rfl
theorem zh4 {k : Key} {x : Value} (hx : SK.is prog w h (.one k) x) : x.scannable = true := by
 rcases zar hx with ⟨j, t, _, e2⟩ | ⟨y, t, _, e2⟩ <;> rw [e2] <;> rfl
theorem Es.idx {ks : List SK} {es : List (Int × Value)} (x : Es prog w h ks es) (hf : ∀ k ∈ ks, k.flat = true) (k : Key) :
  (∀ j, es.findIdx? (fun e => (zak prog w).is k e.2) = some j -> ks[j]? = some (.one k)) /\ (es.findIdx? (fun e => (zak prog w).is k e.2) = none -> SK.one k ∉ ks) := by
 constructor
 ·intro j hj
  obtain ⟨h1, h2, _⟩ := List.findIdx?_eq_some_iff_getElem.mp hj
  obtain ⟨k', a, b, c⟩ := x.get j es[j] (List.getElem?_eq_getElem h1)
  have hk := hf k' (List.mem_of_getElem? a)
  cases k' with
  | many _ => simp [SK.flat] at hk
  | one k' => rw [a, (zak prog w).inj _ _ _ c h2]
 ·intro hn hin
  obtain ⟨i, hi⟩ := List.mem_iff_getElem?.mp hin
  have hil : i < es.length := by rw [<- x.length]; exact (List.getElem?_eq_some_iff.mp hi).1
  obtain ⟨k', a, b, c⟩ := x.get i es[i] (List.getElem?_eq_getElem hil)
  rw [hi] at a; cases a
  have := List.findIdx?_eq_none_iff.mp hn es[i] (List.getElem_mem hil)
  rw [show (zak prog w).is k es[i].2 = true from c] at this; cases this
theorem znx {es : Array (Int × Value)} {t : SetTable} (ok : SOk t es.toList) (hh : Int) (x : Value) :
  ∃ sl wd, layNew t es hh x = (SetTable.insertAt es (t.put sl).2 (hh, x), (t.put sl).1, wd, false) /\ sl <= t.mask /\ zhm t hh sl /\ (wd = true -> t.slot sl = .dummy) /\ (wd = false -> t.slot sl = .empty) := by
 obtain ⟨kp, hpow⟩ := ok.ok.pow
 obtain ⟨e, he, hemp⟩ := zgr ok.ok (by have := ok.room; lia)
 obtain ⟨N, hN, hp⟩ := zof t.mask _ hpow hh e he
 obtain ⟨m, m1, m2, d, hd, hr⟩ := zkk t (fun _ => hh + 1) hh (10 * SetTable.turns t.mask) (t.probeStart hh) 0 ⟨rfl, rfl, rfl, rfl⟩ ⟨N, Nat.zero_le _, by lia, by rw [hp]; exact hemp⟩
 rcases hr with ⟨h1, h2⟩ | ⟨i, nx, _, h2, _⟩
 ·have hfs : t.freeSlot hh = some (d.getD (posM t.mask hh m), d.isSome) := by
   unfold SetTable.freeSlot SetTable.probe
   rw [h2]
  have key : ∃ sl wd, t.freeSlot hh = some (sl, wd) /\ sl <= t.mask /\ zhm t hh sl /\ (wd = true -> t.slot sl = .dummy) /\ (wd = false -> t.slot sl = .empty) := by
   rcases hd with hd | ⟨q, q1, q2, q3, q4⟩
   ·have : d = none := hd
    subst this
    exact ⟨_, _, hfs, zgm _ _ hpow hh m, ⟨m, rfl, fun q hq => (m2 q (Nat.zero_le _) hq).1⟩, (fun e => by cases e), fun _ => h1⟩
   ·subst q3
    exact ⟨_, _, hfs, zgm _ _ hpow hh q, ⟨q, rfl, fun q' hq => (m2 q' (Nat.zero_le _) (by lia)).1⟩, (fun _ => q4), (fun e => by cases e)⟩
  obtain ⟨sl, wd, f1, f2, f3, f4, f5⟩ := key
  refine ⟨sl, wd, ?_, f2, f3, f4, f5⟩
  have hs : t.slot sl = .empty \/ t.slot sl = .dummy := by cases wd with
   | true => exact .inr (f4 rfl)
   | false => exact .inl (f5 rfl)
  obtain ⟨g1, g2, g3, g4, g5, _⟩ := zq0 t es hh x sl ok hs f2 f3
  have hfit : (t.put sl).1.fits (SetTable.insertAt es (t.put sl).2 (hh, x)).size = true := by
   simp only [SetTable.fits, Bool.and_eq_true, beq_iff_eq, decide_eq_true_eq]
   refine ⟨g3, ?_⟩
   have := ok.room
   rw [g2]; lia
  unfold layNew
  rw [f1]
  show (_, (t.put sl).1.orStandIn _, wd, !(t.put sl).1.fits _) = _
  unfold SetTable.orStandIn
  have hfit' : (t.put sl).1.fits (SetTable.insertAt es (SetTable.below t.place sl) (hh, x)).size = true := hfit
  rw [hfit']; rfl
 ·lia
theorem zi9 (t : SetTable) (es : Array (Int × Value)) (wanted : Nat) (h1 : 2 * es.size <= wanted) (h2 : wanted <= 4095) :
  ∃ t' es', relayAll t es wanted = (es', t', false) /\ t'.led = t.led /\ t'.plain = t.plain /\ es'.toList.Perm es.toList /\ SOk t' es'.toList := by
 obtain ⟨t', order, e1, e2, e3, e4, e5, e6, e7, e8, e9⟩ := zir t es wanted h1 h2
 refine ⟨t', _, ?_, e4, e5, e7, e9⟩
 unfold relayAll
 rw [e1]
 dsimp only
 have c1 : coversAll order es.size = true := List.isPerm_iff.mpr e6
 have c2 : t'.fits (order.filterMap (es[·]?)).size = true := by
  simp only [SetTable.fits, Bool.and_eq_true, beq_iff_eq, decide_eq_true_eq]
  exact ⟨by rw [e9.size, Array.length_toList], by have := e9.room; lia⟩
 rw [c1, c2]; rfl
end
section
variable {prog : Program} {w : World} {A : Around} {E : Value -> Shared -> Prop} {s : Shared}
theorem zpt {t : SetTable} {es : List (Int × Value)} (ok : SOk t es) (hh : Int) : ∃ N, 0 <= N /\ N < 0 + 100000 /\ N < 10 * SetTable.turns t.mask /\ t.slot (posM t.mask hh N) = .empty := by
 obtain ⟨kp, hpow⟩ := ok.ok.pow
 obtain ⟨e, he, hemp⟩ := zgr ok.ok (by have := ok.room; lia)
 obtain ⟨N, hN, hp⟩ := zof t.mask _ hpow hh e he
 have hb := ok.ok.big
 refine ⟨N, Nat.zero_le _, ?_, hN, by rw [hp]; exact hemp⟩
 unfold SetTable.turns at hN; lia
theorem zlt {es : Array (Int × Value)} {k : Key} {x : Value} {ks : List SK} (hx : SK.is prog w s.heap (.one k) x) (ent : Es prog w s.heap ks es.toList) (hf : ∀ k ∈ ks, k.flat = true) (hs : ks.length <= 1000) : byScan x es = true :=
 byScan_of (knd:=zak prog w) (zh4 hx) (by have := ent.length; simp at this; unfold scanBound; lia) (ent.flats hf)
theorem zjr {es : Array (Int × Value)} {a : Addr} : byScan (.ref a) es = false := rfl
theorem zt2 {k : SK} {x : Value} {Q : Bool -> Shared -> Prop} (hx : k.is prog w s.heap x) (q : ∀ b, Q b s) : wpAny (model prog w) A (hashByValue 8 x) Q E s := by
 cases k with
 | one k => rw [hashByValue_scannable 8 (zh4 hx)]; exact wpAny_pure (q _)
 | many kk =>
  obtain ⟨a, rfl, hk⟩ := hx
  have hT := hk.typeIs
  obtain ⟨o, its, n, ho, _, hd, hi⟩ := hk
  unfold hashByValue
  refine wpAny_bind (wpAny_specialOf hT F.slot_tuple_hash.lookup ?_)
  show wpAny _ _ (seqItems? (.ref a) >>= _) Q E s
  refine wpAny_bind (wpAny_seqItems ho hd ?_)
  show wpAny _ _ (forIn its _ _ >>= _) Q E s
  refine wpAny_bind ?_
  rw [<- Array.forIn_toList]
  refine wpAny_forIn_list _ (fun rest r s' => r.1 = none /\ s' = s /\ ∀ v ∈ rest, carriedByValue v = true /\ v.scannable = true) _ ?_ ?_ _ _ ⟨rfl, rfl, ?_⟩
  ·rintro v rest r s' ⟨hr, rfl, hall⟩
   have hv := hall v List.mem_cons_self
   show wpAny _ _ (hashByValue 7 v >>= _) _ _ _
   rw [hashByValue_scannable 7 hv.2]
   refine wpAny_bind (wpAny_pure ?_)
   cases plainKind v with
   | true =>
    simp only [Bool.not_true, Bool.false_eq_true, if_false]
    exact wpAny_pure ⟨rfl, rfl, fun u hu' => hall u (List.mem_cons_of_mem _ hu')⟩
   | false =>
    simp only [Bool.not_false, if_true]
    exact wpAny_pure (wpAny_pure (q false))
  ·rintro ⟨r1, r2⟩ s' ⟨hr, rfl, _⟩
   simp only at hr
   subst hr
   exact wpAny_pure (q true)
  ·intro v hv
   refine ⟨hi.byValue v hv, ?_⟩
   clear hd
   generalize its.toList = vs at hi hv
   induction hi with
   | nil => cases hv
   | cons h1 _ ih =>
    rcases List.mem_cons.mp hv with rfl | hv
    ·rcases zar h1 with ⟨j, t, _, e2⟩ | ⟨y, t, _, e2⟩ <;> rw [e2] <;> rfl
    ·exact ih hv
end
end L2
namespace L2
open PySem PySem.Spec PyProof.Rows L2T
section
variable {prog : Program} {w : World} {h : Heap}
noncomputable def zav (b : Bool) (t : SetTable) : SetTable := if b then t else { t with plain := false }
theorem zdq (b : Bool) (t : SetTable) : (zav b t).mask = t.mask := by cases b <;> rfl
theorem zei (b : Bool) (t : SetTable) : (zav b t).place = t.place := by cases b <;> rfl
theorem zf7 (b : Bool) (t : SetTable) : (zav b t).dummies = t.dummies := by cases b <;> rfl
theorem zjm (b : Bool) (t : SetTable) : (zav b t).led = t.led := by cases b <;> rfl
theorem ze9 (b : Bool) (t : SetTable) : (zav b t).fill = t.fill := by cases b <;> rfl
theorem zit {o : Obj} {ks : List SK} {es : Array (Int × Value)} {ep : Nat} {t : SetTable} {x : Value} {k : SK} {sl : Nat} {wd : Bool} (S : SetO prog w h o ks es ep t) (hx : k.is prog w h x)
  (h1 : sl <= t.mask) (h2 : zhm t (k.hash prog w) sl) (h3 : wd = true -> t.slot sl = .dummy) (h4 : wd = false -> t.slot sl = .empty) (bv : Bool) :
  (SetTable.insertAt es (t.put sl).2 (k.hash prog w, x)).size = es.size + 1 /\ (zav bv (t.put sl).1).fits (SetTable.insertAt es (t.put sl).2 (k.hash prog w, x)).size = true /\ (zav bv (t.put sl).1).led = led0 w /\
  (SetTable.insertAt es (t.put sl).2 (k.hash prog w, x)).toList.Perm ((k.hash prog w, x) :: es.toList) /\ (∃ k1, k1.Perm (k :: ks) /\ Es prog w h k1 (SetTable.insertAt es (t.put sl).2 (k.hash prog w, x)).toList) /\
  ((wd = true \/ (zav bv (t.put sl).1).tooFull = false) -> SOk (zav bv (t.put sl).1) (SetTable.insertAt es (t.put sl).2 (k.hash prog w, x)).toList) := by
 have hs : t.slot sl = .empty \/ t.slot sl = .dummy := by cases wd with
  | true => exact .inr (h3 rfl)
  | false => exact .inl (h4 rfl)
 obtain ⟨g1, g2, g3, g4, g5, g6, g7, g8, g9⟩ := zq0 t es (k.hash prog w) x sl S.tab hs h1 h2
 have hroom := S.tab.room
 have hsz : (SetTable.insertAt es (t.put sl).2 (k.hash prog w, x)).size = es.size + 1 := by
  have := g7.length_eq; simpa using this
 refine ⟨hsz, ?_, ?_, g7, ?_, ?_⟩
 ·simp only [SetTable.fits, Bool.and_eq_true, beq_iff_eq, decide_eq_true_eq]
  rw [zei, ze9, zdq]
  exact ⟨g3, by rw [g2]; lia⟩
 ·rw [zjm, g8]; exact S.led
 ·exact (Es.cons (e:=(k.hash prog w, x)) rfl hx S.ent).perm g7
 ·intro hc
  refine zm8 (t:=(t.put sl).1) ⟨g1, ?_, by rw [g3, Array.length_toList], g4⟩ (zdq ..) (zei ..) (zf7 ..)
  rcases hc with hc | hc
  ·rw [g6 (h3 hc), g2]; exact hroom
  ·unfold SetTable.tooFull at hc
   rw [ze9, zdq] at hc
   simpa using hc
theorem SetO.newk {o : Obj} {ks : List SK} {es : Array (Int × Value)} {ep : Nat} {t : SetTable} (S : SetO prog w h o ks es ep t) {k : SK} (hk : ∀ k' ∈ ks, k'.flat = k.flat) (hn : k ∉ ks) (hr : ks.length + 1 <= 1000)
  {h' : Heap} {k1 : List SK} {e1 : Array (Int × Value)} {ep1 : Nat} {t1 : SetTable} (p : k1.Perm (k :: ks)) (ok : SOk t1 e1.toList) (en : Es prog w h' k1 e1.toList) (hl : t1.led = led0 w) :
  SetO prog w h' { o with data := .set e1 ep1 t1 } k1 e1 ep1 t1 :=
 ⟨S.ex, rfl, ok, en, p.nodup_iff.mpr (List.nodup_cons.mpr ⟨hn, S.nod⟩), by rw [p.length_eq]; simpa using hr, hl, k.flat, fun k' hk' => by
  rcases List.mem_cons.mp (p.mem_iff.mp hk') with rfl | e
  ·rfl
  ·exact hk k' e⟩
end
section
variable {prog : Program} {w : World} {A : Around} {E : Value -> Shared -> Prop} {s : Shared}
theorem zbk {n : Nat} (h : n <= 1001) : n <= sizeLine := by rw [sizeLine_eq]; lia
theorem zgd {n : Nat} (h : n <= 4095) : ¬ SetTable.sizeAbove n > sizeLine := by
 obtain ⟨_, _, _, _, h5⟩ := ze4 n h
 rw [sizeLine_eq]; lia
theorem zcb {n : Nat} (h : n <= 1000) : 2 * n <= SetTable.grown n /\ SetTable.grown n <= 4095 := by
 unfold SetTable.grown
 rw [if_neg (by lia)]; lia
theorem zu9 {a : Addr} {o : Obj} {ks : List SK} {es : Array (Int × Value)} {ep : Nat} {t : SetTable} {x : Value} {k : SK} {Q : Bool -> Shared -> Prop} (hu : A.units < cLine)
  (ho : s.heap.get? a = some o) (S : SetO prog w s.heap o ks es ep t) (hk : ∀ k' ∈ ks, k'.flat = k.flat) (hx : k.is prog w s.heap x) (hr : ks.length + 1 <= 1000)
  (q : ∀ h' k1 e1, Heap.SameBut a s.heap h' -> SetE prog w h' a k1 e1 -> k1.Perm (if k ∈ ks then ks else k :: ks) -> (∀ e ∈ e1.toList, e ∈ es.toList \/ e = (k.hash prog w, x)) -> Q (decide (k ∉ ks)) { s with heap := h' }) :
  wpAny (model prog w) A (setAddHashed a x (k.hash prog w)) Q E s := by
 have hlen : es.size = ks.length := by have := S.ent.length; simp at this; lia
 have old : k ∈ ks -> Q false s := fun hin => by
  have := q s.heap ks es (Heap.SameBut.refl _ _) ⟨o, ep, t, ho, S⟩ (by rw [if_pos hin]) (fun e he => .inl he)
  rw [decide_eq_false (by simpa using hin)] at this
  exact this
 have new : k ∉ ks -> ∀ h' e1 ep1 t1 k1, Heap.SameBut a s.heap h' -> h'.get? a = some { o with data := .set e1 ep1 t1 } -> k1.Perm (k :: ks) -> SOk t1 e1.toList -> Es prog w s.heap k1 e1.toList -> t1.led = led0 w -> e1.toList.Perm ((k.hash prog w, x) :: es.toList) -> Q true { s with heap := h' } := fun hn h' e1 ep1 t1 k1 hs hg p ok en hl hp => by
  have hK : zhs s.heap h' := zec (es:=es) (ep:=ep) (t:=t) ho S.ex hs
  have := q h' k1 e1 hs ⟨_, ep1, t1, hg, S.newk hk hn hr p ok (en.mono hK) hl⟩ (by rw [if_neg hn]; exact p) (fun e he => by
   rcases List.mem_cons.mp (hp.mem_iff.mp he) with z | z
   ·exact .inr z
   ·exact .inl z)
  rw [decide_eq_true hn] at this
  exact this
 unfold setAddHashed setAddHashedIn
 refine wpAny_holding (wpAny_bind (zhf (M:=model prog w) ho S ?_))
 dsimp only
 cases k with
 | one k =>
  rw [zlt hx S.ent hk S.small, if_pos rfl]
  unfold setAddByScan
  refine wpAny_bind (wpAny_bind (wpAny_rule ?_))
  refine wpAny_bind (wpAny_setScan_of (knd:=zak prog w) hx ho S.data S.fits (S.ent.flats hk) ?_)
  obtain ⟨i1, i2⟩ := S.ent.idx hk k
  cases hi : es.toList.findIdx? (fun e => (zak prog w).is k e.2) with
  | some j => exact wpAny_pure (wpAny_pure (old (List.mem_of_getElem? (i1 j hi))))
  | none =>
   have hn := i2 hi
   obtain ⟨sl, wd, f1, f2, f3, f4, f5⟩ := znx S.tab (SK.hash prog w (.one k)) x
   dsimp only
   rw [f1]
   refine wpAny_bind (wpAny_pure (a:=()) ?_)
   dsimp only
   have fin : ∀ (gw : Bool -> Sem Unit) (hgw : ∀ (s : Shared) (Q : Unit -> Shared -> Prop), Q () s -> wpAny (model prog w) A (gw false) Q E s) (bv : Bool), wpAny (model prog w) A (do
     storeSet a (SetTable.insertAt es (t.put sl).2 (SK.hash prog w (.one k), x)) (zav bv (t.put sl).1)
     if (!wd && (zav bv (t.put sl).1).tooFull) = true then do
      gw (relayAll (zav bv (t.put sl).1) (SetTable.insertAt es (t.put sl).2 (SK.hash prog w (.one k), x)) (SetTable.grown (SetTable.insertAt es (t.put sl).2 (SK.hash prog w (.one k), x)).size)).2.2
      storeSet a (relayAll (zav bv (t.put sl).1) (SetTable.insertAt es (t.put sl).2 (SK.hash prog w (.one k), x)) (SetTable.grown (SetTable.insertAt es (t.put sl).2 (SK.hash prog w (.one k), x)).size)).1
       (relayAll (zav bv (t.put sl).1) (SetTable.insertAt es (t.put sl).2 (SK.hash prog w (.one k), x)) (SetTable.grown (SetTable.insertAt es (t.put sl).2 (SK.hash prog w (.one k), x)).size)).2.1
      pure (some true)
     else pure (some true)) (fun r s' => wpAny (model prog w) A (match r with | some added => pure added | none => setAddHashedIn a x (SK.hash prog w (.one k)) 99999) Q E s') E s := by
    intro gw hgw bv
    obtain ⟨p1, p2, p3, p7, ⟨k1, p4, p5⟩, p6⟩ := zit (bv:=bv) S (k:=.one k) hx f2 f3 f4 f5
    refine wpAny_bind (wpAny_storeSet_of ho S.data ?_ (zbk (by lia)))
    have g1 := zg4 ho S.data (SetTable.insertAt es (t.put sl).2 (SK.hash prog w (.one k), x)) (zav bv (t.put sl).1)
    have sb1 := Heap.SameBut.update s.heap a (Obj.putSet (SetTable.insertAt es (t.put sl).2 (SK.hash prog w (.one k), x)) (zav bv (t.put sl).1))
    by_cases hc : (!wd && (zav bv (t.put sl).1).tooFull) = true
    ·rw [if_pos hc]
     obtain ⟨t2, e2, r1, r2, _, r4, r5⟩ := zi9 (zav bv (t.put sl).1) (SetTable.insertAt es (t.put sl).2 (SK.hash prog w (.one k), x)) (SetTable.grown (SetTable.insertAt es (t.put sl).2 (SK.hash prog w (.one k), x)).size)
      (zcb (by lia)).1 (zcb (by lia)).2
     rw [r1]
     refine wpAny_bind (hgw _ _ ?_)
     have z2 : e2.size = es.size + 1 := by rw [<- p1]; have := r4.length_eq; simpa using this
     refine wpAny_bind (wpAny_storeSet_of g1 rfl ?_ (zbk (by show e2.size <= 1001; lia)))
     obtain ⟨k2, q1, q2⟩ := p5.perm r4
     refine wpAny_pure (wpAny_pure (new hn _ e2 _ t2 k2 (sb1.trans (Heap.SameBut.update _ a _)) (zg4 g1 rfl e2 t2) (q1.trans p4) r5 q2 (by rw [r2]; exact p3) (r4.trans p7)))
    ·rw [if_neg hc]
     refine wpAny_pure (wpAny_pure (new hn _ _ _ _ k1 sb1 g1 p4 (p6 ?_) p5 p3 p7))
     cases wd with
     | true => exact .inl rfl
     | false => exact .inr (by simpa using hc)
   split
   ·refine wpAny_bind (zt2 (k:=.one k) hx fun b => ?_)
    exact fin _ (fun _ _ q => wpAny_pure q) b
   ·exact wpAny_bind (wpAny_pure (fin _ (fun _ _ q => wpAny_pure q) true))
 | many kk =>
  obtain ⟨ax, rfl, hax⟩ := hx
  rw [zjr]
  simp only [Bool.false_eq_true, if_false]
  unfold setSearch
  refine wpAny_bind (zqb hu ho S hk ⟨ax, rfl, hax⟩ (fun i hi => ?_) (fun hn sl wd f2 f3 f4 f5 => ?_) 100000 0 none (fun _ => rfl) (fun p hp => by cases hp) (fun q hq => by lia) (zpt S.tab _))
  ·exact wpAny_pure (old (List.mem_of_getElem? hi))
  ·dsimp only
   refine wpAny_bind (zhf (M:=model prog w) ho S ?_)
   dsimp only
   have fin : ∀ bv : Bool, wpAny (model prog w) A (do
     storeSet a (SetTable.insertAt es (t.put sl).2 (SK.hash prog w (.many kk), .ref ax)) (zav bv (t.put sl).1)
     if (!wd && (zav bv (t.put sl).1).tooFull) = true then do
      setRelay a (SetTable.grown (es.size + 1))
      pure true
     else pure true) Q E s := by
    intro bv
    obtain ⟨p1, p2, p3, p7, ⟨k1, p4, p5⟩, p6⟩ := zit (bv:=bv) S (k:=.many kk) ⟨ax, rfl, hax⟩ f2 f3 f4 f5
    refine wpAny_bind (wpAny_storeSet_of ho S.data ?_ (zbk (by lia)))
    have g1 := zg4 ho S.data (SetTable.insertAt es (t.put sl).2 (SK.hash prog w (.many kk), .ref ax)) (zav bv (t.put sl).1)
    have sb1 := Heap.SameBut.update s.heap a (Obj.putSet (SetTable.insertAt es (t.put sl).2 (SK.hash prog w (.many kk), .ref ax)) (zav bv (t.put sl).1))
    by_cases hc : (!wd && (zav bv (t.put sl).1).tooFull) = true
    ·rw [if_pos hc]
     obtain ⟨t2, order, r1, _, _, r2, _, _, r4, r6, r5⟩ := zir (zav bv (t.put sl).1) (SetTable.insertAt es (t.put sl).2 (SK.hash prog w (.many kk), .ref ax)) (SetTable.grown (es.size + 1))
      (by rw [p1]; exact (zcb (by lia)).1) (zcb (by lia)).2
     unfold setRelay
     refine wpAny_bind (wpAny_bind (wpAny_setState_of g1 rfl p2 ?_))
     dsimp only
     rw [if_neg (zgd (zcb (by lia)).2)]
     rw [r1]
     refine wpAny_bind (wpAny_ite_split (fun h => absurd h (by rw [r6]; simp)) (fun _ => wpAny_pure ?_))
     dsimp only
     refine wpAny_storeSet_of g1 rfl ?_ (zbk (by rw [r6, p1]; lia))
     obtain ⟨k2, q1, q2⟩ := p5.perm r4
     exact wpAny_pure (new hn _ _ _ t2 k2 (sb1.trans (Heap.SameBut.update _ a _)) (zg4 g1 rfl _ t2) (q1.trans p4) r5 q2 (by rw [r2]; exact p3) (r4.trans p7))
    ·rw [if_neg hc]
     refine wpAny_pure (new hn _ _ _ _ k1 sb1 g1 p4 (p6 ?_) p5 p3 p7)
     cases wd with
     | true => exact .inl rfl
     | false => exact .inr (by simpa using hc)
   split
   ·refine wpAny_bind (zt2 (k:=.many kk) ⟨ax, rfl, hax⟩ fun b => ?_)
    exact fin b
   ·exact wpAny_bind (wpAny_pure (fin true))
end
end L2
namespace L2
open PySem PySem.Spec PyProof.Rows L2T
theorem zb2 : Slot "set_iterator" "__next__" "set_iterator.__next__" :=
 .of (owner:="set_iterator") (n:="__next__") (by rw [typeLookup_type, builtinLookup_eq_fast]; kernel_rfl) (by decide +kernel) (by decide +kernel)
  (by decide +kernel) (by first | exact .inl (by decide +kernel) | exact .inr (by decide +kernel)) (by rw [isSubtype_type]; kernel_rfl)
theorem zg5 : entryFor table "set_iterator.__next__" = some Builtin.«set_iterator.__next__» := entryFor_of_tree (by kernel_rfl)
theorem zkt : Manifest.owners.lookup (String.ofList ['r', 'o', 't', 'a', 'r', 'e', 't', 'i', '_', 't', 'e', 's'].reverse) = some Manifest.sig_set_iterator := by kernel_rfl
theorem ziy (a : Value) : argsOk "set_iterator.__next__" ⟨[a], []⟩ := by
 unfold argsOk
 rw [signature?_of (id:="set_iterator.__next__") (n:=['_', '_', 't', 'x', 'e', 'n', '_', '_']) (o:=['r', 'o', 't', 'a', 'r', 'e', 't', 'i', '_', 't', 'e', 's']) (by kernel_rfl) zkt]; kernel_rfl
theorem ze8 : Slot "set_iterator" "__iter__" "set_iterator.__iter__" :=
 .of (owner:="set_iterator") (n:="__iter__") (by rw [typeLookup_type, builtinLookup_eq_fast]; kernel_rfl) (by decide +kernel) (by decide +kernel)
  (by decide +kernel) (by first | exact .inl (by decide +kernel) | exact .inr (by decide +kernel)) (by rw [isSubtype_type]; kernel_rfl)
theorem zhq : entryFor table "set_iterator.__iter__" = some Builtin.«dict_keyiterator.__iter__» :=
 entryFor_alias (id':="dict_keyiterator.__iter__") (by kernel_rfl) rfl (by decide +kernel) (by kernel_rfl)
theorem ziv (a : Value) : argsOk "set_iterator.__iter__" ⟨[a], []⟩ := by
 unfold argsOk
 rw [signature?_of (id:="set_iterator.__iter__") (n:=['_', '_', 'r', 'e', 't', 'i', '_', '_']) (o:=['r', 'o', 't', 'a', 'r', 'e', 't', 'i', '_', 't', 'e', 's']) (by kernel_rfl) zkt]; kernel_rfl
theorem zhb : entryFor table "set.__iter__" = some Builtin.«frozenset.__iter__» :=
 entryFor_alias (id':="frozenset.__iter__") (by kernel_rfl) rfl (by decide +kernel) (by kernel_rfl)
noncomputable def zb8 (w : World) : Bool := w.params.followText "set-order"
section
variable {prog : Program} {w : World} {A : Around} {E : Value -> Shared -> Prop} {s : Shared}
theorem zgy {α : Type} {l : List α} {i : Nat} (h : i < l.length) : (l[i] :: l.eraseIdx i).Perm l := by
 rw [List.eraseIdx_eq_take_drop_succ]
 have e : (l.take i ++ l[i] :: l.drop (i + 1)).Perm (l[i] :: (l.take i ++ l.drop (i + 1))) := List.perm_middle
 rw [List.getElem_cons_drop, List.take_append_drop] at e
 exact e.symm
theorem zqf {src : Source} {n : Nat} {Q : Nat -> Shared -> Prop} (hn : n ≠ 0) (q : ∀ i d, i < n -> Q i { s with drawn := d }) : wpAny (model prog w) A (choose src n) Q E s :=
 fun _ _ _ => ⟨hn, q _ _ (Nat.mod_lt _ (Nat.pos_of_ne_zero hn))⟩
theorem zul {α : Type} : ∀ (n : Nat) (xs : List α) (s : Shared) (Q : List α -> Shared -> Prop), xs.length <= n -> (∀ l d, l.Perm xs -> Q l { s with drawn := d }) -> wpAny (model prog w) A (drawOrder n xs) Q E s := by
 intro n
 induction n with
 | zero =>
  intro xs s Q hl q
  have : xs = [] := List.eq_nil_of_length_eq_zero (by lia)
  subst this
  exact wpAny_pure (q [] s.drawn (.refl _))
 | succ n ih =>
  intro xs s Q hl q
  cases xs with
  | nil => exact wpAny_pure (q [] s.drawn (.refl _))
  | cons x xs =>
   unfold drawOrder
   refine wpAny_bind (zqf (by simp) fun i d hi => ?_)
   rw [List.getElem?_eq_getElem hi]
   dsimp only
   refine wpAny_bind (ih _ _ _ ?_ fun l d' hp => ?_)
   ·rw [List.length_eraseIdx_of_lt hi]; simp at hl ⊢; omega
   ·refine wpAny_pure (q _ d' ?_)
    exact (hp.cons _).trans (zgy hi)
theorem zsy {α : Type} (next : Nat -> Nat) : ∀ (fuel k : Nat) (left : List α) (out : Array α), left.length <= fuel -> (pickOrder.go next fuel k left out).toList.Perm (out.toList ++ left) := by
 intro fuel
 induction fuel with
 | zero =>
  intro k left out hl
  have : left = [] := List.eq_nil_of_length_eq_zero (by lia)
  subst this
  unfold pickOrder.go
  simp
 | succ fuel ih =>
  intro k left out hl
  unfold pickOrder.go
  cases left with
  | nil => simp
  | cons x l =>
   have hi : next k % (x :: l).length < (x :: l).length := Nat.mod_lt _ (by simp)
   rw [List.getElem?_eq_getElem hi]
   dsimp only
   refine (ih _ _ _ (by rw [List.length_eraseIdx_of_lt hi]; lia)).trans ?_
   rw [Array.toList_push, List.append_assoc]
   exact List.Perm.append_left _ (zgy hi)
theorem zok {α : Type} (next : Nat -> Nat) (xs : Array α) : (pickOrder next xs).toList.Perm xs.toList := by
 unfold pickOrder
 exact (zsy next xs.size 0 xs.toList #[] (by simp)).trans (by simp)
noncomputable def zfb (w : World) (a : Addr) (es : Array (Int × Value)) (ep : Nat) (t : SetTable) (slot given : Nat) : Option (Value × Nat) :=
 if zb8 w then ((pickOrder (w.params.setOrder a ep) es)[given]?).map fun e => (e.2, slot) else
  match es[SetTable.below t.place slot]?, t.place[SetTable.below t.place slot]? with
  | some (_, x), some j => some (x, j + 1)
  | _, _ => none
structure SetL (w : World) (o : Obj) (es : Array (Int × Value)) (ep : Nat) (t : SetTable) : Prop where
 data : o.data = .set es ep t
 tab : SOk t es.toList
 led : t.led = led0 w
theorem SetO.lite {o : Obj} {ks : List SK} {h : Heap} {es : Array (Int × Value)} {ep : Nat} {t : SetTable} (S : SetO prog w h o ks es ep t) : SetL w o es ep t := ⟨S.data, S.tab, S.led⟩
theorem SetL.fits {o : Obj} {es : Array (Int × Value)} {ep : Nat} {t : SetTable} (S : SetL w o es ep t) : t.fits es.size = true := by
 have h1 := S.tab.size
 have h2 := S.tab.room
 simp only [SetTable.fits, Bool.and_eq_true, beq_iff_eq, decide_eq_true_eq]
 exact ⟨by simpa using h1, by lia⟩
theorem zfm {a : Addr} {o : Obj} {es : Array (Int × Value)} {ep : Nat} {t : SetTable} {Q : Array (Int × Value) × Nat × SetTable -> Shared -> Prop}
  (ho : s.heap.get? a = some o) (S : SetL w o es ep t) (q : Q (es, ep, t) s) : wpAny (model prog w) A (setState a) Q E s := wpAny_setState_of ho S.data S.fits q
theorem zp5 {o : Obj} {es : Array (Int × Value)} {ep : Nat} {t : SetTable} (S : SetL w o es ep t) : t.led = !zb8 w := S.led
theorem zi1 {a : Addr} {o : Obj} {es : Array (Int × Value)} {ep : Nat} {t : SetTable} {slot given : Nat} {Q : Option (Value × Nat) -> Shared -> Prop} (ho : s.heap.get? a = some o) (S : SetL w o es ep t)
  (hd : zb8 w = false -> (!t.plain && decide (es.size > 1)) = false) (q : Q (zfb w a es ep t slot given) s) : wpAny (model prog w) A (setNext a slot given ep) Q E s := by
 unfold setNext
 refine wpAny_bind (zfm ho S ?_)
 dsimp only
 unfold setsByText
 refine wpAny_bind (wpAny_bind (wpAny_askSetting (wpAny_pure ?_)))
 show wpAny _ _ (if zb8 w = true then _ else _) Q E s
 unfold zfb at q
 cases hb : zb8 w with
 | true =>
  rw [hb] at q
  simp only [if_true, bne_self_eq_false, Bool.false_eq_true, if_false]
  unfold setWalk
  refine wpAny_bind (wpAny_bind (zfm ho S ?_))
  dsimp only
  unfold setsByText
  refine wpAny_bind (wpAny_bind (wpAny_askSetting (wpAny_pure ?_)))
  show wpAny _ _ (if zb8 w = true then _ else _) _ E s
  rw [hb, if_pos rfl]
  refine wpAny_bind (wpAny_askSetting (wpAny_pure ?_))
  exact wpAny_pure q
 | false =>
  rw [hb] at q
  simp only [Bool.false_eq_true, if_false]
  refine wpAny_ite_split (fun h => absurd (show (!t.plain && decide (es.size > 1)) = true from h) (by rw [hd hb]; simp)) (fun _ => ?_)
  have hld := zp5 S
  rw [hb] at hld
  exact wpAny_bind (wpAny_ite_split (fun h => absurd h (by rw [hld]; simp)) (fun _ => wpAny_pure (wpAny_pure q)))
noncomputable def zdn (h : Heap) (I a : Addr) (first : Value) (i n ep : Nat) : Prop := ∃ o, h.get? I = some o /\ o.cls = .type "set_iterator" /\ o.data = .fields #[first, .int i 0, .ref a, .int n 0, .int ep 0]
theorem zdn.typeIs {I a : Addr} {first : Value} {i n ep : Nat} (x : zdn s.heap I a first i n ep) : s.TypeIs (.ref I) "set_iterator" := let ⟨o, ho, hc, _⟩ := x; ⟨o, ho, hc⟩
theorem zdn.at {h h' : Heap} {I a : Addr} {first : Value} {i n ep : Nat} (x : zdn h I a first i n ep) (k : ∀ o, h.get? I = some o -> h'.get? I = some o) : zdn h' I a first i n ep := let ⟨o, ho, r⟩ := x; ⟨o, k o ho, r⟩
theorem zrh {h1 : Heap} {Q : Option Value -> Shared -> Prop} {P : PySem.Fin -> Shared -> Prop} (hh : A.handled = none) (q : ∀ h', (∀ b o, h1.get? b = some o -> h'.get? b = some o) -> Q none { s with heap := h' }) :
  wpAny (model prog w) A.in1 (do raiseNew (<- newExc (.type "StopIteration") [])) P (fun e s' => wpAny (model prog w) A (do if <- isInstance e (.type "StopIteration") then pure none else throw e) Q E s') { s with heap := h1 } := by
 refine wpAny_bind ?_
 simp only [newExc, newTuple]
 refine wpAny_bind (wpAny_newObj_type ?_ (by size_fits))
 refine wpAny_bind (m:=firstArgMember _ _) (wpAny_of_eq (a:=Value.none) (by first | rfl | (simp only [firstArgMember]; rfl)) ?_)
 refine wpAny_newObj_type ?_ (by size_fits)
 simp only [raiseNew]
 refine wpAny_bind (wpAny_handled ?_)
 rw [show A.in1.handled = none from hh]
 refine wpAny_bind (wpAny_pure (wpAny_throw ?_))
 refine wpAny_bind (wpAny_isInstance (T:="StopIteration") (b:=true) ⟨_, Heap.get?_push_size _ rfl, rfl⟩ isSubtype_stop ?_)
 exact wpAny_pure (q _ fun b o e => Heap.get?_push_of_some _ (Heap.get?_push_of_some _ e))
end
end L2
namespace L2
open PySem PySem.Spec PyProof.Rows L2T
section
variable {prog : Program} {w : World} {A : Around} {E : Value -> Shared -> Prop} {s : Shared}
theorem zek {I a : Addr} {first : Value} {i n ep : Nat} {Q : Option Value -> Shared -> Prop} (hit : zdn s.heap I a first i n ep)
  (h : wpAny (model prog w) A.in1 (Builtin.«set_iterator.__next__» ⟨[.ref I], []⟩) (fun fin s' => ∃ r, fin = .done (.ret r) /\ Q (some r) s')
   (fun e s' => wpAny (model prog w) A (do if <- isInstance e (.type "StopIteration") then pure none else throw e) Q E s') s) : wpAny (model prog w) A (pyNext (.ref I)) Q E s := by
 unfold pyNext
 refine wpAny_bind (wpAny_attempt (wpAny_callSpecial?_slot (name:=Str.ofString "__next__") hit.typeIs zb2 (wpAny_call_entry zb2 hit.typeIs zg5 (wpAny_mono h ?_ ?_) (ziy _))))
 ·rintro fin s' ⟨r, rfl, q⟩
  exact ⟨r, rfl, wpAny_pure q⟩
 ·intro e s' q
  exact q
theorem zid {I a : Addr} {o : Obj} {es : Array (Int × Value)} {ep : Nat} {t : SetTable} {slot i nx : Nat} {x : Value} {Q : Option Value -> Shared -> Prop} (hit : zdn s.heap I a (.int slot 0) i es.size ep)
  (ho : s.heap.get? a = some o) (S : SetL w o es ep t) (hd : zb8 w = false -> (!t.plain && decide (es.size > 1)) = false) (hn : zfb w a es ep t slot i = some (x, nx))
  (q : ∀ h', zdn h' I a (.int nx 0) (i + 1) es.size ep -> Heap.SameBut I s.heap h' -> Q (some x) { s with heap := h' }) : wpAny (model prog w) A (pyNext (.ref I)) Q E s := by
 refine zek hit ?_
 obtain ⟨oi, hoi, hc, hdi⟩ := id hit
 unfold Builtin.«set_iterator.__next__»
 refine wpAny_bind (wpAny_pure ?_)
 refine wpAny_bind (wpAny_fieldsOf hoi hdi ?_)
 dsimp only
 refine wpAny_bind (wpAny_setEntries_of ho S.data S.fits ?_)
 rw [if_neg (by simp)]
 refine wpAny_bind (zi1 ho S hd ?_)
 simp only [Int.toNat_natCast]
 rw [hn]
 dsimp only
 refine wpAny_bind (wpAny_setField hoi hdi (by simp) ?_)
 have g1 : (s.heap.update I (Obj.mapFields (·.setIfInBounds 0 (rawInt nx)))).get? I = some _ := Heap.get?_update_self _ hoi (Obj.isFreed_of_fields (Obj.data_mapFields hdi _))
 have d1 := Obj.data_mapFields hdi (·.setIfInBounds 0 (rawInt nx))
 refine wpAny_bind (wpAny_setField g1 d1 (by simp) ?_)
 refine wpAny_pure ⟨x, rfl, q _ ⟨_, Heap.get?_update_self _ g1 (Obj.isFreed_of_fields (Obj.data_mapFields d1 _)), ?_, ?_⟩ ((Heap.SameBut.update ..).trans (Heap.SameBut.update ..))⟩
 ·exact (Obj.cls_mapFields ..).trans ((Obj.cls_mapFields ..).trans hc)
 ·rw [Obj.data_mapFields d1]; simp [rawInt]
theorem zkp {I a : Addr} {o : Obj} {es : Array (Int × Value)} {ep : Nat} {t : SetTable} {slot i : Nat} {Q : Option Value -> Shared -> Prop} (hh : A.handled = none) (hit : zdn s.heap I a (.int slot 0) i es.size ep)
  (ho : s.heap.get? a = some o) (S : SetL w o es ep t) (hd : zb8 w = false -> (!t.plain && decide (es.size > 1)) = false) (hn : zfb w a es ep t slot i = none)
  (q : ∀ h', (∀ b o, b ≠ I -> s.heap.get? b = some o -> h'.get? b = some o) -> Q none { s with heap := h' }) : wpAny (model prog w) A (pyNext (.ref I)) Q E s := by
 refine zek hit ?_
 obtain ⟨oi, hoi, hc, hdi⟩ := id hit
 unfold Builtin.«set_iterator.__next__»
 refine wpAny_bind (wpAny_pure ?_)
 refine wpAny_bind (wpAny_fieldsOf hoi hdi ?_)
 dsimp only
 refine wpAny_bind (wpAny_setEntries_of ho S.data S.fits ?_)
 rw [if_neg (by simp)]
 refine wpAny_bind (zi1 ho S hd ?_)
 simp only [Int.toNat_natCast]
 rw [hn]
 dsimp only
 refine wpAny_bind (wpAny_setField hoi hdi (by simp) ?_)
 exact zrh hh fun h' k => q h' fun b o hb e => k b o ((Heap.get?_update_other _ _ (Ne.symm hb)).trans e)
noncomputable def zh0 (h : Heap) (p : Addr) (pl : List Nat) : Prop := ∃ o n, h.get? p = some o /\ o.data = .seq (pl.map fun (i : Nat) => rawInt i).toArray n
theorem zl8 {I a p : Addr} {o : Obj} {es : Array (Int × Value)} {ep : Nat} {t : SetTable} {i : Nat} {pl : List Nat} {e : Int × Value} {j : Nat} {Q : Option Value -> Shared -> Prop} (hit : zdn s.heap I a (.ref p) i es.size ep)
  (hp : zh0 s.heap p pl) (ho : s.heap.get? a = some o) (S : SetL w o es ep t) (hj : pl[i]? = some j) (he : es[j]? = some e)
  (q : ∀ h', zdn h' I a (.ref p) (i + 1) es.size ep -> Heap.SameBut I s.heap h' -> Q (some e.2) { s with heap := h' }) : wpAny (model prog w) A (pyNext (.ref I)) Q E s := by
 refine zek hit ?_
 obtain ⟨oi, hoi, hc, hdi⟩ := id hit
 obtain ⟨op, np, hop, hdp⟩ := hp
 unfold Builtin.«set_iterator.__next__»
 refine wpAny_bind (wpAny_pure ?_)
 refine wpAny_bind (wpAny_fieldsOf hoi hdi ?_)
 dsimp only
 refine wpAny_bind (wpAny_setEntries_of ho S.data S.fits ?_)
 rw [if_neg (by simp)]
 refine wpAny_bind (wpAny_seqItems hop hdp ?_)
 dsimp only
 have hpl : (pl.map fun (i : Nat) => rawInt i).toArray[(i : Int).toNat]? = some (.int j 0) := by
  simp [hj, rawInt]
 rw [hpl]
 dsimp only
 unfold setNextDrawn
 refine wpAny_bind (wpAny_bind (zfm ho S ?_))
 simp only [Int.toNat_natCast, bne_self_eq_false, Bool.false_eq_true, if_false, he]
 refine wpAny_pure ?_
 refine wpAny_bind (wpAny_setField hoi hdi (by simp) ?_)
 refine wpAny_pure ⟨e.2, rfl, q _ ⟨_, Heap.get?_update_self _ hoi (Obj.isFreed_of_fields (Obj.data_mapFields hdi _)), ?_, ?_⟩ (Heap.SameBut.update ..)⟩
 ·exact (Obj.cls_mapFields ..).trans hc
 ·rw [Obj.data_mapFields hdi]; simp [rawInt]
theorem zml {I a p : Addr} {o : Obj} {es : Array (Int × Value)} {ep : Nat} {t : SetTable} {i : Nat} {pl : List Nat} {Q : Option Value -> Shared -> Prop} (hh : A.handled = none) (hit : zdn s.heap I a (.ref p) i es.size ep)
  (hp : zh0 s.heap p pl) (ho : s.heap.get? a = some o) (S : SetL w o es ep t) (hj : pl[i]? = none)
  (q : ∀ h', (∀ b o, b ≠ I -> s.heap.get? b = some o -> h'.get? b = some o) -> Q none { s with heap := h' }) : wpAny (model prog w) A (pyNext (.ref I)) Q E s := by
 refine zek hit ?_
 obtain ⟨oi, hoi, hc, hdi⟩ := id hit
 obtain ⟨op, np, hop, hdp⟩ := hp
 unfold Builtin.«set_iterator.__next__»
 refine wpAny_bind (wpAny_pure ?_)
 refine wpAny_bind (wpAny_fieldsOf hoi hdi ?_)
 dsimp only
 refine wpAny_bind (wpAny_setEntries_of ho S.data S.fits ?_)
 rw [if_neg (by simp)]
 refine wpAny_bind (wpAny_seqItems hop hdp ?_)
 dsimp only
 have hpl : (pl.map fun (i : Nat) => rawInt i).toArray[(i : Int).toNat]? = none := by
  simp at hj; simp [hj]
 rw [hpl]
 dsimp only
 refine wpAny_bind (wpAny_setField hoi hdi (by simp) ?_)
 have g1 : (s.heap.update I (Obj.mapFields (·.setIfInBounds 0 (rawInt 0)))).get? I = some _ := Heap.get?_update_self _ hoi (Obj.isFreed_of_fields (Obj.data_mapFields hdi _))
 have d1 := Obj.data_mapFields hdi (·.setIfInBounds 0 (rawInt 0))
 refine wpAny_bind (wpAny_setField g1 d1 (by simp) ?_)
 exact zrh hh fun h' k => q h' fun b o hb e => k b o ((Heap.get?_update_other _ _ (Ne.symm hb)).trans ((Heap.get?_update_other _ _ (Ne.symm hb)).trans e))
theorem zql (xs : Array Nat) (hp : xs.toList.Pairwise (· < ·)) (j i : Nat) (hi : i <= xs.size) (h1 : ∀ k x, k < i -> xs[k]? = some x -> x < j) (h2 : ∀ k x, i <= k -> xs[k]? = some x -> j <= x) : SetTable.below xs j = i := by
 obtain ⟨b0, b1, b2⟩ := zdt xs j hp
 rcases Nat.lt_trichotomy (SetTable.below xs j) i with c | c | c
 ·have hg : xs[SetTable.below xs j]? = some (xs[SetTable.below xs j]'(by lia)) := Array.getElem?_eq_getElem _
  have := h1 _ _ c hg
  have := b2 _ _ (Nat.le_refl _) hg
  lia
 ·exact c
 ·have hg : xs[i]? = some (xs[i]'(by lia)) := Array.getElem?_eq_getElem _
  have := h2 _ _ (Nat.le_refl _) hg
  have := b1 _ _ c hg
  lia
noncomputable def zen (t : SetTable) (i : Nat) : Nat := if i = 0 then 0 else t.place.getD (i - 1) 0 + 1
theorem zt4 {a : Addr} {es : Array (Int × Value)} {ep : Nat} {t : SetTable} (ok : SOk t es.toList) (hb : zb8 w = false) (i : Nat) (hi : i <= es.size) :
  zfb w a es ep t (zen t i) i = (es[i]?).map fun e => (e.2, zen t (i + 1)) := by
 have hsz : t.place.size = es.size := by simpa using ok.size
 have hbel : SetTable.below t.place (zen t i) = i := by
  refine zql _ ok.ok.pl _ _ (by lia) (fun k x hk hx => ?_) (fun k x hk hx => ?_)
  ·unfold zen
   rw [if_neg (by lia)]
   have hl : i - 1 < t.place.size := by lia
   have hg : t.place[i - 1]? = some (t.place[i - 1]) := Array.getElem?_eq_getElem hl
   have e : t.place.getD (i - 1) 0 = t.place[i - 1] := by simp [Array.getD, hl]
   rw [e]
   rcases Nat.lt_or_ge k (i - 1) with c | c
   ·have := zhg t.place ok.ok.pl k (i - 1) x _ c hx hg; lia
   ·have : k = i - 1 := by lia
    subst this; rw [hg] at hx; cases hx; lia
  ·unfold zen
   split
   ·lia
   ·have hl : i - 1 < t.place.size := by lia
    have hg : t.place[i - 1]? = some (t.place[i - 1]) := Array.getElem?_eq_getElem hl
    have e : t.place.getD (i - 1) 0 = t.place[i - 1] := by simp [Array.getD, hl]
    rw [e]
    have := zhg t.place ok.ok.pl (i - 1) k _ x (by lia) hg hx; lia
 unfold zfb
 rw [hb, hbel]
 simp only [Bool.false_eq_true, if_false]
 by_cases hc : i < es.size
 ·have h1 : es[i]? = some es[i] := Array.getElem?_eq_getElem hc
  have h2 : t.place[i]? = some (t.place[i]'(by lia)) := Array.getElem?_eq_getElem _
  rw [h1, h2]
  show some (es[i].2, _) = some (es[i].2, zen t (i + 1))
  unfold zen
  rw [if_neg (by lia)]
  have e : t.place.getD (i + 1 - 1) 0 = t.place[i]'(by lia) := by
   have hl : i < t.place.size := by lia
   simp [Array.getD, hl]
  rw [e]
 ·have h1 : es[i]? = none := Array.getElem?_eq_none (by lia)
  rw [h1]; rfl
end
end L2
namespace L2
open PySem PySem.Spec PyProof.Rows L2T
noncomputable def zd1 (h h' : Heap) : Prop := ∀ b o, h.get? b = some o -> h'.get? b = some o
theorem zd1.T {h h' : Heap} (k : zd1 h h') : zhs h h' := fun b o _ e => k b o e
section
variable {prog : Program} {w : World} {A : Around} {E : Value -> Shared -> Prop} {s : Shared}
theorem zdo {I a : Addr} {first : Value} {i n ep : Nat} {Q : Value -> Shared -> Prop} (hit : zdn s.heap I a first i n ep) (q : Q (.ref I) s) : wpAny (model prog w) A (pyIter (.ref I)) Q E s := by
 refine wpAny_pyIter_slot hit.typeIs ze8 (wpAny_call_entry ze8 hit.typeIs zhq ?_ (ziv _))
 show wpAny _ _ (ret (.ref I)) _ _ s
 exact wpAny_pure ⟨_, rfl, "set_iterator", _, hit.typeIs, zb2.lookup, q⟩
noncomputable def znj (prog : Program) (w : World) (A : Around) (I a : Addr) (fp : List Addr) (vs : List Value) (St : Nat -> Heap -> Prop) : Prop :=
 Walks prog w A I fp [I] vs.length (fun i v => vs[i]? = some v) St
theorem zuw {a I : Addr} {o : Obj} {es : Array (Int × Value)} {ep : Nat} {t : SetTable} (S : SetL w o es ep t) (hb : zb8 w = true) (hne : a ≠ I) (hh : A.handled = none) :
  znj prog w A I a [I, a] ((pickOrder (w.params.setOrder a ep) es).toList.map (·.2)) (fun i h => zdn h I a (.int (0 : Nat) 0) i es.size ep /\ h.get? a = some o) := by
 have hn : ∀ i, zfb w a es ep t 0 i = ((((pickOrder (w.params.setOrder a ep) es).toList.map (·.2))[i]?).map fun v => (v, 0)) := fun i => by
  unfold zfb
  rw [hb, if_pos rfl, List.getElem?_map, Array.getElem?_toList, Option.map_map]; rfl
 have hd : zb8 w = false -> (!t.plain && decide (es.size > 1)) = false := fun e => by rw [hb] at e; cases e
 refine ⟨fun b hb => by simp at hb; simp [hb], fun i h h' st k => ⟨st.1.at fun o e => k I (by simp) o e, k a (by simp) o st.2⟩, fun i s Q E hi st q => ?_, fun s Q E st q => ?_, fun i s Q E st q => zdo st.1 q⟩
 ·refine zid st.1 st.2 S hd (x:=((pickOrder (w.params.setOrder a ep) es).toList.map (·.2))[i]) (nx:=0) (by rw [hn, List.getElem?_eq_getElem hi]; rfl) fun h' it' sb => ?_
  exact q _ h' s.toks (List.getElem?_eq_getElem hi) ⟨it', (sb.2 a hne).trans st.2⟩ fun b o hb e => (sb.2 b (by simpa using hb)).trans e
 ·refine zkp hh st.1 st.2 S hd (by rw [hn, List.getElem?_eq_none (Nat.le_refl _)]; rfl) fun h' k => q h' s.toks fun b o hb e => k b o (by simpa using hb) e
theorem zu0 {a I : Addr} {o : Obj} {es : Array (Int × Value)} {ep : Nat} {t : SetTable} (S : SetL w o es ep t) (hb : zb8 w = false) (hd : (!t.plain && decide (es.size > 1)) = false) (hne : a ≠ I) (hh : A.handled = none) :
  znj prog w A I a [I, a] (es.toList.map (·.2)) (fun i h => zdn h I a (.int (zen t i) 0) i es.size ep /\ h.get? a = some o) := by
 have hl : (es.toList.map (·.2)).length = es.size := by simp
 refine ⟨fun b hb => by simp at hb; simp [hb], fun i h h' st k => ⟨st.1.at fun o e => k I (by simp) o e, k a (by simp) o st.2⟩, fun i s Q E hi st q => ?_, fun s Q E st q => ?_, fun i s Q E st q => zdo st.1 q⟩
 ·rw [hl] at hi
  have he : es[i]? = some es[i] := Array.getElem?_eq_getElem hi
  refine zid st.1 st.2 S (fun _ => hd) (x:=es[i].2) (nx:=zen t (i + 1)) (by rw [zt4 S.tab hb i (by lia), he]; rfl) fun h' it' sb => ?_
  exact q _ h' s.toks (by rw [List.getElem?_map, Array.getElem?_toList, he]; rfl) ⟨it', (sb.2 a hne).trans st.2⟩ fun b o hb e => (sb.2 b (by simpa using hb)).trans e
 ·rw [hl] at st
  refine zkp hh st.1 st.2 S (fun _ => hd) (by rw [zt4 S.tab hb _ (Nat.le_refl _), Array.getElem?_eq_none (Nat.le_refl _)]; rfl) fun h' k => q h' s.toks fun b o hb e => k b o (by simpa using hb) e
theorem zux {a I p : Addr} {o : Obj} {es : Array (Int × Value)} {ep : Nat} {t : SetTable} (S : SetL w o es ep t) {pl : List Nat} (hp : pl.Perm (List.range es.size)) (hne : a ≠ I) (hnp : p ≠ I) (hh : A.handled = none) :
  znj prog w A I a [I, a, p] (pl.map fun j => (es.getD j (0, .none)).2) (fun i h => zdn h I a (.ref p) i es.size ep /\ h.get? a = some o /\ zh0 h p pl) := by
 refine ⟨fun b hb => by simp at hb; simp [hb], fun i h h' st k => ⟨st.1.at fun o e => k I (by simp) o e, k a (by simp) o st.2.1, let ⟨op, n, e1, e2⟩ := st.2.2; ⟨op, n, k p (by simp) op e1, e2⟩⟩, fun i s Q E hi st q => ?_, fun s Q E st q => ?_, fun i s Q E st q => zdo st.1 q⟩
 ·rw [List.length_map] at hi
  have hj : pl[i]? = some pl[i] := List.getElem?_eq_getElem hi
  have hjl : pl[i] < es.size := List.mem_range.mp (hp.mem_iff.mp (List.getElem_mem hi))
  have he : es[pl[i]]? = some es[pl[i]] := Array.getElem?_eq_getElem hjl
  refine zl8 st.1 st.2.2 st.2.1 S hj he fun h' it' sb => ?_
  refine q _ h' s.toks ?_ ⟨it', (sb.2 a hne).trans st.2.1, ?_⟩ fun b o hb e => (sb.2 b (by simpa using hb)).trans e
  ·rw [List.getElem?_map, hj]
   show some (es.getD pl[i] (0, .none)).2 = _
   simp [Array.getD, hjl]
  ·obtain ⟨op, n, e1, e2⟩ := st.2.2
   exact ⟨op, n, (sb.2 p hnp).trans e1, e2⟩
 ·rw [List.length_map] at st
  refine zml hh st.1 st.2.2 st.2.1 S (List.getElem?_eq_none (Nat.le_refl _)) fun h' k => q h' s.toks fun b o hb e => k b o (by simpa using hb) e
theorem zjn {es : Array (Int × Value)} {pl : List Nat} (hp : pl.Perm (List.range es.size)) : (pl.map fun j => (es.getD j (0, Value.none)).2).Perm (es.toList.map (·.2)) := by
 refine (hp.map _).trans ?_
 have : (List.range es.size).map (fun j => (es.getD j (0, Value.none)).2) = es.toList.map (·.2) := by
  refine List.ext_getElem? fun i => ?_
  rw [List.getElem?_map, List.getElem?_map]
  by_cases hi : i < es.size
  ·rw [List.getElem?_range hi, List.getElem?_eq_getElem (by simpa using hi)]; simp [Array.getD, hi]
  ·rw [List.getElem?_eq_none (by simpa using hi), List.getElem?_eq_none (by simpa using hi)]; rfl
 rw [this]
theorem zbi {h : Heap} {o : Obj} : zd1 h (h.push o) := fun b u e => Heap.get?_push_of_some _ e
theorem zt6 {a : Addr} {o : Obj} {ks : List SK} {es : Array (Int × Value)} {ep : Nat} {t : SetTable} {Q : Value -> Shared -> Prop} (ho : s.heap.get? a = some o) (S0 : SetO prog w s.heap o ks es ep t)
  (q : ∀ (h1 : Heap) (d : Drawn) (I : Addr) (fp : List Addr) (vs : List Value), (∀ A' : Around, A'.handled = none -> ∃ St, Walks prog w A' I fp [I] vs.length (fun i v => vs[i]? = some v) St /\ St 0 h1) -> vs.Perm (es.toList.map (·.2)) -> zd1 s.heap h1 -> s.heap.objs.size <= I -> I < h1.objs.size -> (∀ b ∈ fp, b = a \/ s.heap.objs.size <= b) ->
   Q (.ref I) { s with heap := h1, drawn := d }) : wpAny (model prog w) A (pyIter (.ref a)) Q E s := by
 have S := S0.lite
 have hT : s.TypeIs (.ref a) "set" := ⟨o, ho, S0.ex.1⟩
 have halt : a < s.heap.objs.size := Heap.lt_size ho
 refine wpAny_pyIter_slot hT F.slot_set_iter (wpAny_call_entry F.slot_set_iter hT zhb ?_ (F.args_set_iter_1 _))
 unfold Builtin.«frozenset.__iter__»
 refine wpAny_bind (wpAny_pure ?_)
 unfold Builtin.Frozenset.sizeOf
 refine wpAny_bind (wpAny_bind (wpAny_setEntries_of ho S.data S.fits (wpAny_pure ?_)))
 unfold setDrawn
 refine wpAny_bind (wpAny_bind (zfm ho S ?_))
 dsimp only
 unfold setsByText
 refine wpAny_bind (wpAny_bind (wpAny_askSetting (wpAny_pure ?_)))
 refine wpAny_pure ?_
 show wpAny _ _ (if (!zb8 w && (!t.plain && decide (es.size > 1))) = true then _ else _) _ _ s
 have hsm : es.size <= 1000 := by have := S0.small; have := S0.ent.length; simp at this; lia
 by_cases hc : (!zb8 w && (!t.plain && decide (es.size > 1))) = true
 ·rw [if_pos hc]
  refine wpAny_bind (zul _ _ _ _ (by simp) fun pl d hp => ?_)
  unfold newTuple
  refine wpAny_bind (wpAny_newObj_type ?_ (by show (pl.map fun (i : Nat) => rawInt i).length <= sizeLine; rw [List.length_map, hp.length_eq, List.length_range]; exact zbk (by lia)))
  refine wpAny_bind (wpAny_setEpoch_of (Heap.get?_push_of_some _ ho) S.data S.fits ?_)
  unfold newFields
  refine wpAny_bind (wpAny_newObj_type (wpAny_pure ⟨_, rfl, "set_iterator", _, ⟨_, Heap.get?_push_size _ rfl, rfl⟩, zb2.lookup, ?_⟩))
  show Q (.ref (s.heap.push { cls := .type "tuple", data := .seq (pl.map fun (i : Nat) => rawInt i).toArray }).objs.size) _
  have g1 : (s.heap.push { cls := .type "tuple", data := .seq (pl.map fun (i : Nat) => rawInt i).toArray }).get? s.heap.objs.size = some { cls := .type "tuple", data := .seq (pl.map fun (i : Nat) => rawInt i).toArray } := Heap.get?_push_size _ rfl
  have k1 : zd1 s.heap (s.heap.push { cls := .type "tuple", data := .seq (pl.map fun (i : Nat) => rawInt i).toArray }) := zbi
  have z1 : (s.heap.push { cls := .type "tuple", data := .seq (pl.map fun (i : Nat) => rawInt i).toArray }).objs.size = s.heap.objs.size + 1 := Heap.size_push ..
  refine q _ d _ [(s.heap.push { cls := .type "tuple", data := .seq (pl.map fun (i : Nat) => rawInt i).toArray }).objs.size, a, s.heap.objs.size] _ (fun A' hh => ⟨_, zux (p:=s.heap.objs.size) S hp (by rw [z1]; exact Nat.ne_of_lt (Nat.lt_succ_of_lt halt)) (by rw [z1]; exact Nat.ne_of_lt (Nat.lt_succ_self _)) hh,
   ⟨_, Heap.get?_push_size _ rfl, rfl, by simp [rawInt]⟩, zbi _ _ (k1 _ _ ho), ⟨_, 0, zbi _ _ g1, rfl⟩⟩) (zjn hp) (fun b u e => zbi _ _ (k1 _ _ e)) ?_ ?_ ?_
  ·rw [z1]; lia
  ·exact Nat.lt_of_lt_of_eq (Nat.lt_succ_self _) (Heap.size_push ..).symm
  ·intro b hb
   simp only [List.mem_cons, List.not_mem_nil, or_false] at hb
   rcases hb with rfl | rfl | rfl
   ·exact .inr (by rw [z1]; lia)
   ·exact .inl rfl
   ·exact .inr (Nat.le_refl _)
 ·rw [if_neg hc]
  refine wpAny_bind (wpAny_pure ?_)
  refine wpAny_bind (wpAny_setEpoch_of ho S.data S.fits ?_)
  unfold newFields
  refine wpAny_bind (wpAny_newObj_type (wpAny_pure ⟨_, rfl, "set_iterator", _, ⟨_, Heap.get?_push_size _ rfl, rfl⟩, zb2.lookup, ?_⟩))
  have it0 : zdn (s.heap.push { cls := .type "set_iterator", data := .fields [rawInt 0, rawInt 0, Value.ref a, rawInt es.size, rawInt ep].toArray }) s.heap.objs.size a (.int (0 : Nat) 0) 0 es.size ep :=
   ⟨_, Heap.get?_push_size _ rfl, rfl, by simp [rawInt]⟩
  have hfp : ∀ b ∈ [s.heap.objs.size, a], b = a \/ s.heap.objs.size <= b := by
   intro b hb
   simp only [List.mem_cons, List.not_mem_nil, or_false] at hb
   rcases hb with rfl | rfl
   ·exact .inr (Nat.le_refl _)
   ·exact .inl rfl
  cases hb : zb8 w with
  | true =>
   exact q _ s.drawn _ [s.heap.objs.size, a] _ (fun A' hh => ⟨_, zuw S hb (Nat.ne_of_lt halt) hh, it0, zbi _ _ ho⟩) ((zok _ _).map _) zbi (Nat.le_refl _) (by rw [Heap.size_push]; exact Nat.lt_succ_self _) hfp
  | false =>
   rw [hb] at hc
   exact q _ s.drawn _ [s.heap.objs.size, a] _ (fun A' hh => ⟨_, zu0 S hb (by simpa using hc) (Nat.ne_of_lt halt) hh, it0, zbi _ _ ho⟩) (.refl _) zbi (Nat.le_refl _) (by rw [Heap.size_push]; exact Nat.lt_succ_self _) hfp
theorem zlx : typeLookup (.type "set") "__len__" = pure (some (.builtin "set.__len__")) := F.slot_set_len.lookup
theorem zut {a : Addr} {Q : Bool -> Shared -> Prop} (hT : s.TypeIs (.ref a) "set") (q : Q false s) : wpAny (model prog w) A (Builtin.List.listLengthHint (.ref a)) Q E s := by
 unfold Builtin.List.listLengthHint
 refine wpAny_bind (wpAny_specialOf hT zlx ?_)
 generalize hid : ("set.__len__" : String) = id0
 wp_delta
 rw [show splitId id0 = some ("set", "__len__") from by subst hid; decide +kernel]
 subst hid
 refine wpAny_bind (wpAny_isInstance (T:="set") (b:=true) hT sub_set_self ?_)
 refine wpAny_ite_split (fun e => absurd e (by decide)) (fun _ => ?_)
 refine wpAny_ite_split (fun _ => ?_) (fun e => absurd (by decide +kernel) e)
 exact wpAny_bind (wpAny_typeOf hT (wpAny_pure q))
theorem zn9 {a : Addr} {o : Obj} {ks : List SK} {es : Array (Int × Value)} {ep : Nat} {t : SetTable} {Q : List Value -> Shared -> Prop} (hh : A.handled = none) (ho : s.heap.get? a = some o) (S0 : SetO prog w s.heap o ks es ep t)
  (q : ∀ (vs : List Value) (h' : Heap) (d : Drawn) (tk : Nat), vs.Perm (es.toList.map (·.2)) -> zd1 s.heap h' -> s.heap.objs.size < h'.objs.size -> Q vs { s with heap := h', drawn := d, toks := tk }) : wpAny (model prog w) A (collect (.ref a)) Q E s := by
 have halt : a < s.heap.objs.size := Heap.lt_size ho
 unfold collect
 refine wpAny_bind (wpAny_runValue (codeAny_builtin F.entry_proto_collect ?_))
 rw [Around.under_plainId F.plain_proto_collect _]
 show wpAny _ A.in1 (newList [] >>= fun l => again (.builtin "list.__iadd__" ⟨[l, .ref a], []⟩)) _ _ s
 refine wpAny_bind (wpAny_newObj_type ?_)
 refine wpAny_pure ⟨plainId_quiet F.plain_list_iadd _, codeAny_builtin F.entry_list_iadd ?_⟩
 rw [Around.under_plainId F.plain_list_iadd _]
 generalize hN : s.heap.push { cls := .type "list", data := .seq ([] : List Value).toArray } = hL
 have hLg : hL.get? s.heap.objs.size = some { cls := .type "list", data := .seq ([] : List Value).toArray } := by rw [<- hN]; exact Heap.get?_push_size _ rfl
 have hLs : hL.objs.size = s.heap.objs.size + 1 := by rw [<- hN, Heap.size_push]
 have k0 : zd1 s.heap hL := by rw [<- hN]; exact zbi
 show wpAny _ A.in1 (Builtin.List.listExtendWith (.ref s.heap.objs.size) (.ref a) (.ref s.heap.objs.size)) _ _ _
 unfold Builtin.List.listExtendWith
 refine wpAny_bind (wpAny_typeOf (T:="set") ⟨o, k0 a o ho, S0.ex.1⟩ ?_)
 have h1 : Builtin.List.listSameRef (.ref s.heap.objs.size) (.ref a) = false := by
  simp only [Builtin.List.listSameRef, beq_eq_false_iff_ne]; exact Nat.ne_of_gt halt
 have h2 : (Value.type "set" == Value.type "list") = false := by decide
 have h3 : (Value.type "set" == Value.type "tuple") = false := by decide
 simp only [h1, h2, h3, Bool.or_false, Bool.false_eq_true, if_false]
 refine wpAny_bind (zt6 (s:={ s with heap := hL }) (k0 a o ho) (S0.mono k0.T) fun h1 d I fp vs hW hvs k1 hI1 hI2 hfp => ?_)
 refine wpAny_bind (wpAny_holding (zut ⟨o, k1 a o (k0 a o ho), S0.ex.1⟩ ?_))
 refine wpAny_ite_split (fun _ => ?_) (fun e => absurd (by decide +kernel) e)
 refine wpAny_bind (wpAny_rule ?_)
 refine wpAny_bind ?_
 show wpAny _ A.in1 (updateSeq s.heap.objs.size (·.push .none) >>= fun _ => updateSeq s.heap.objs.size (·.pop)) _ _ _
 have hS1 := k1 _ _ hLg
 refine wpAny_bind (wpAny_updateSeq hS1 rfl ?_)
 have hS2 := Heap.get?_update_self (Obj.mapSeq (·.push Value.none)) hS1 rfl
 refine wpAny_updateSeq hS2 rfl ?_
 have hS3 := Heap.get?_update_self (Obj.mapSeq (·.pop)) hS2 rfl
 generalize hG : (h1.update s.heap.objs.size (Obj.mapSeq (·.push Value.none))).update s.heap.objs.size (Obj.mapSeq (·.pop)) = h2 at hS3 ⊢
 have k2 : ∀ b u, b ≠ s.heap.objs.size -> h1.get? b = some u -> h2.get? b = some u := fun b u hb e => by
  rw [<- hG]; exact (Heap.get?_update_other _ _ (Ne.symm hb)).trans ((Heap.get?_update_other _ _ (Ne.symm hb)).trans e)
 have hSf : s.heap.objs.size ∉ fp := fun hm => by
  rcases hfp _ hm with e | e
  ·rw [<- e] at halt; exact Nat.lt_irrefl _ halt
  ·have e' : hL.objs.size <= s.heap.objs.size := e
   rw [hLs] at e'; lia
 obtain ⟨St, W, st0⟩ := hW A.in1 (by simp [hh])
 have st2 := W.frame 0 h1 h2 st0 fun b hb u e => k2 b u (fun x => hSf (x ▸ hb)) e
 refine wpAny_pure ⟨plainId_quiet F.plain_extend_loop _, codeAny_extend_loopS (A:=A) W.toS (by rw [hvs.length_eq]; simp; exact zbk (by have := S0.small; have := S0.ent.length; simp at this; lia)) _ hSf _ vs.length 0 _ _ _ rfl (Nat.zero_le _) st2 hS3 (ItemsOf.nil _) fun s' acc c hm hS' hacc => ?_⟩
 show wpAny _ A (load s.heap.objs.size >>= _) _ _ s'
 refine wpAny_bind (wpAny_load hS' ?_)
 have ev : acc.toList = vs := by
  refine List.ext_getElem? fun i => ?_
  by_cases hi : i < acc.size
  ·have e1 : acc[i]? = some acc[i] := Array.getElem?_eq_getElem hi
   rw [hacc.2 i _ e1, List.getElem?_eq_getElem (by simpa using hi)]; simp
  ·rw [List.getElem?_eq_none (by simpa using hi), List.getElem?_eq_none (by have := hacc.1; lia)]
 have es' := Moved.eq_with hm
 refine wpAny_pure ?_
 show Q acc.toList s'
 rw [ev, es']
 refine q vs s'.heap d s'.toks hvs (fun b u e => ?_) (Heap.lt_size hS')
 have hb := Heap.lt_size e
 have hb1 : b ≠ s.heap.objs.size := Nat.ne_of_lt hb
 have hb2 : b ≠ I := fun x => by
  have e' : hL.objs.size <= I := hI1
  rw [hLs, <- x] at e'
  exact Nat.lt_irrefl _ (Nat.lt_trans hb e')
 exact hm.heap b u (by simp [hb1, hb2]) (k2 b u hb1 (k1 b u (k0 b u e)))
end
end L2
namespace L2
open PySem PySem.Spec PyProof.Rows L2T
section
variable {prog : Program} {w : World} {A : Around} {E : Value -> Shared -> Prop} {s : Shared}
theorem ztx {k : SK} {x : Value} {Q : Int -> Shared -> Prop} (hu : A.units < cLine) (hx : k.is prog w s.heap x) (q : ∀ tk, Q (k.hash prog w) { s with toks := tk }) : wpAny (model prog w) A (pyHash x) Q E s := by
 cases k with
 | one k => exact (zak prog w).pyHash hx (q _)
 | many kk => obtain ⟨a, rfl, hk⟩ := hx; exact wpAny_pyHash_tuple hu hk (q _)
structure Part (prog : Program) (w : World) (k0 : List SK) (items : Array Value) (i : Nat) (ks : List SK) (es : Array (Int × Value)) : Prop where
 mem : ∀ k, k ∈ ks ↔ ∃ j : Nat, j < i /\ k0[j]? = some k
 len : ks.length <= i
 ent : ∀ e ∈ es.toList, ∃ j : Nat, items[j]? = some e.2
theorem zp8 {S I l : Addr} {items : Array Value} {k0 : List SK} {f : Bool} {R : Result -> Shared -> Prop} (hu : A.units + 1 < cLine) (hh : A.handled = none) (hSI : S ≠ I) (hSl : S ≠ l) (hIl : l ≠ I)
  (hlen : k0.length = items.size) (hn : items.size <= 1000) (hf : ∀ k ∈ k0, k.flat = f) :
  ∀ (m i : Nat) (s : Shared) (ks : List SK) (es : Array (Int × Value)), items.size - i = m -> i <= items.size -> s.heap.IsListIter I l i -> s.heap.IsList l items -> SetE prog w s.heap S ks es -> Part prog w k0 items i ks es ->
   (∀ (j : Nat) (v : Value) (k : SK), items[j]? = some v -> k0[j]? = some k -> k.is prog w s.heap v) ->
   (∀ s' ks' es', (∀ b o, b ≠ I -> b ≠ S -> s.heap.get? b = some o -> s'.heap.get? b = some o) -> (∃ tk, s' = { s with heap := s'.heap, toks := tk }) -> SetE prog w s'.heap S ks' es' -> Part prog w k0 items items.size ks' es' -> R (.ok (.ret .none)) s') ->
   codeAny (model prog w) A (.builtin "set.update.loop" ⟨[.ref S, .ref I], []⟩) R s := by
 intro m
 induction m with
 | zero =>
  intro i s ks es hk hi hit hl hS hp hkey hR
  have hin : i = items.size := by lia
  subst hin
  refine codeAny_builtin F.entry_set_update_loop ?_
  rw [Around.under_plainId F.plain_set_update_loop _]
  show wpAny _ A.in1 (pyNext (.ref I) >>= _) _ _ s
  refine wpAny_bind (wpAny_pyNext_list_end (by simp [hh]) hit hl (by simp) fun h' he => ?_)
  show wpAny _ A.in1 (ret Value.none) _ _ _
  obtain ⟨o, ep, t, ho, So⟩ := hS
  have kT : zhs s.heap h' := fun b u c e => he b u (fun z => by
   obtain ⟨oi, h1, h2, _⟩ := hit
   rw [z, h1] at e; cases e; rw [h2] at c; exact absurd c (by decide)) e
  exact wpAny_pure (hR _ ks es (fun b u h1 _ e => he b u h1 e) ⟨s.toks, rfl⟩ ⟨o, ep, t, he S o hSI ho, So.mono kT⟩ hp)
 | succ m ih =>
  intro i s ks es hk hi hit hl hS hp hkey hR
  have hlt : i < items.size := by lia
  have hv : items[i]? = some items[i] := Array.getElem?_eq_getElem hlt
  have hki : k0[i]? = some (k0[i]'(by lia)) := List.getElem?_eq_getElem _
  have hx := hkey i _ _ hv hki
  have hfi := hf _ (List.mem_of_getElem? hki)
  generalize k0[i]'(by lia) = k at hki hx hfi
  refine codeAny_builtin F.entry_set_update_loop ?_
  rw [Around.under_plainId F.plain_set_update_loop _]
  show wpAny _ A.in1 (pyNext (.ref I) >>= _) _ _ s
  refine wpAny_bind (wpAny_pyNext_list_item hit hl hv fun h1 hit1 sb1 => ?_)
  have kT1 : zhs s.heap h1 := fun b u c e => (sb1.2 b (fun z => by
   obtain ⟨oi, g1, g2, _⟩ := hit
   rw [z, g1] at e; cases e; rw [g2] at c; exact absurd c (by decide))).trans e
  obtain ⟨o, ep, t, ho, So⟩ := hS
  have ho1 : h1.get? S = some o := (sb1.2 S hSI).trans ho
  show wpAny _ A.in1 (holding [items[i]] (setAdd S items[i]) >>= _) _ _ _
  refine wpAny_bind (wpAny_holding ?_)
  unfold setAdd
  refine wpAny_holding (wpAny_bind (ztx (by simp only [Around.in1_units]; omega) (SK.is_mono kT1 hx) fun tk => ?_))
  have kin : ∀ k' ∈ ks, k'.flat = k.flat := fun k' hk' => by
   obtain ⟨j, _, hj⟩ := (hp.mem k').mp hk'
   rw [hf _ (List.mem_of_getElem? hj), hfi]
  refine zu9 (s:={ s with heap := h1, toks := tk }) (by simp only [Around.in1_units]; omega) ho1 (So.mono kT1) kin (SK.is_mono kT1 hx) (by have := hp.len; lia) fun h2 k2 e2 sb2 S2 p2 en2 => ?_
  have hp2 : Part prog w k0 items (i + 1) k2 e2 := by
   refine ⟨fun k' => ?_, ?_, fun e he => ?_⟩
   ·rw [p2.mem_iff]
    constructor
    ·intro hm
     have hm' : k' ∈ k :: ks := by
      split at hm
      ·exact List.mem_cons_of_mem _ hm
      ·exact hm
     rcases List.mem_cons.mp hm' with e | e
     ·exact ⟨i, by lia, by rw [e]; exact hki⟩
     ·obtain ⟨j, hj, hkj⟩ := (hp.mem k').mp e; exact ⟨j, by lia, hkj⟩
    ·rintro ⟨j, hj, hkj⟩
     have hm' : k' = k \/ k' ∈ ks := by
      rcases Nat.lt_or_ge j i with c | c
      ·exact .inr ((hp.mem k').mpr ⟨j, c, hkj⟩)
      ·have : j = i := by lia
       subst this; rw [hki] at hkj; cases hkj; exact .inl rfl
     split
     ·rename_i hin
      rcases hm' with e | e
      ·rw [e]; exact hin
      ·exact e
     ·rcases hm' with e | e
      ·rw [e]; exact List.mem_cons_self
      ·exact List.mem_cons_of_mem _ e
   ·rw [p2.length_eq]
    have := hp.len
    split
    ·lia
    ·simp; omega
   ·rcases en2 e he with z | z
    ·exact hp.ent e z
    ·exact ⟨i, by rw [z]; exact hv⟩
  have k12 : zhs h1 h2 := zec (es:=es) (ep:=ep) (t:=t) ho1 So.ex sb2
  refine wpAny_pure ⟨plainId_quiet F.plain_set_update_loop _, ih (i + 1) _ k2 e2 (by lia) hlt ?_ ?_ S2 hp2 (fun j v k' h3 h4 => SK.is_mono (fun b u c e => k12 b u c (kT1 b u c e)) (hkey j v k' h3 h4)) fun s' k3 e3 kp ⟨tk', hs'⟩ S3 p3 => ?_⟩
  ·exact hit1.at fun u e => (sb2.2 I (Ne.symm hSI)).trans e
  ·exact (hl.extBut sb1.extBut hIl).at fun u e => (sb2.2 l (Ne.symm hSl)).trans e
  ·refine hR s' k3 e3 (fun b u h3 h4 e => kp b u h3 h4 ((sb2.2 b h4).trans ((sb1.2 b h3).trans e))) ⟨tk', ?_⟩ S3 p3
   rw [hs']
end
end L2
namespace L2
open PySem PySem.Spec PyProof.Rows L2T
section
variable {prog : Program} {w : World} {A : Around} {E : Value -> Shared -> Prop} {s : Shared}
theorem zqx {h : Heap} {a : Addr} {led : Bool} (hl : led = led0 w) (hg : h.get? a = some { cls := .type "set", dict := none, data := .set #[] 0 (.fresh 0 0 led) }) : SetE prog w h a [] #[] :=
 ⟨_, 0, _, hg, ⟨rfl, rfl, rfl⟩, rfl, zmz 0 0 led, .nil, List.nodup_nil, by simp, hl, true, fun k hk => by cases hk⟩
theorem zmd (a : Value) {Q1 : Value -> Shared -> Prop} (h : Q1 (.ref s.heap.objs.size) { s with heap := s.heap.push { cls := .type "set", dict := none, data := .set #[] 0 (.fresh 0 0 (led0 w)) } }) :
  codeAny (model prog w) A (.call (.builtin "set.__new__") ⟨[.type "set", a], []⟩) (wants Q1 E) s := by
 refine codeAny_of_tree ?_
 show wpAny _ A.in1 (do checkBuiltinCall "set.__new__" ⟨[.type "set", a], []⟩; again (.builtin "set.__new__" ⟨[.type "set", a], []⟩)) _ _ s
 refine wpAny_bind (wpAny_of_eq (F.newCall_set_1 a) (wpAny_pure ⟨plainId_quiet F.plain_set_new _, codeAny_builtin F.entry_set_new ?_⟩))
 rw [Around.under_plainId F.plain_set_new _]
 unfold Builtin.«set.__new__» Builtin.Frozenset.newClass
 have hsub := sub_set_self
 obtain ⟨hp, g, d, tk, os⟩ := s
 dsimp only
 wp_walk
 refine wpAny_askSetting (wpAny_pure ?_)
 dsimp only
 simp only [newObj]
 refine wpAny_bind (wpAny_alloc (wpAny_pure ?_))
 exact wpAny_pure h
theorem zlu {l : Addr} {items : Array Value} {k0 : List SK} {f : Bool} {Q : Value -> Shared -> Prop} (hu : A.units + 16 < cLine) (hh : A.handled = none) (hl : s.heap.IsList l items) (hlen : k0.length = items.size) (hn : items.size <= 1000) (hf : ∀ k ∈ k0, k.flat = f)
  (hkey : ∀ (j : Nat) (v : Value) (k : SK), items[j]? = some v -> k0[j]? = some k -> k.is prog w s.heap v)
  (q : ∀ h' tk ks es, zd1 s.heap h' -> SetE prog w h' s.heap.objs.size ks es -> Part prog w k0 items items.size ks es -> Q (.ref s.heap.objs.size) { s with heap := h', toks := tk }) :
  wpAny (model prog w) A (call (.type "set") [.ref l]) Q E s := by
 obtain ⟨c, tl, hmro⟩ := F.called_set.mro
 have hmade := F.called_set.made
 have hsub := F.called_set.sub
 refine wpAny_call (codeAny_of_tree ?_)
 show wpAny _ _ (callAny (.type "set") _) _ _ _
 refine wpAny_pure ⟨Code.quiet_builtin _ (by decide +kernel), codeAny_builtin F.entry_type_call ?_⟩
 rw [Around.under_plain (weight_type_call_type "set" [.ref l] []) rfl]
 have h1 := F.called_set.notType
 have h2 := F.called_set.canCreate
 have hct := F.typeCall_set_1 (.ref l)
 repeat (any_goals (first | assumption | wp_step))
 refine codeAny_mono (zmd (.ref l) (E:=E) (Q1:=fun obj s1 => obj = .ref s.heap.objs.size /\ s1 = { s with heap := s.heap.push { cls := .type "set", dict := none, data := .set #[] 0 (.fresh 0 0 (led0 w)) } }) ⟨rfl, rfl⟩) fun r s1 hr => ?_
 cases r with
 | error e => exact hr
 | ok fl =>
  cases fl with
  | ret obj =>
   obtain ⟨rfl, rfl⟩ := hr
   generalize hN : s.heap.push { cls := .type "set", dict := none, data := .set #[] 0 (.fresh 0 0 (led0 w)) } = hp1
   have hS : hp1.get? s.heap.objs.size = some { cls := .type "set", dict := none, data := .set #[] 0 (.fresh 0 0 (led0 w)) } := by rw [<- hN]; exact Heap.get?_push_size _ rfl
   have k1 : zd1 s.heap hp1 := by rw [<- hN]; exact zbi
   have z1 : hp1.objs.size = s.heap.objs.size + 1 := by rw [<- hN, Heap.size_push]
   have hT : Shared.TypeIs { s with heap := hp1 } (.ref s.heap.objs.size) "set" := ⟨_, hS, rfl⟩
   have hli := F.called_set.init.lookup
   have hbi := F.called_set.init.bind (.ref s.heap.objs.size)
   repeat (any_goals (first | assumption | wp_step))
   refine codeAny_mono (codeAny_call_builtin (R:=wants (fun r s2 => r = .none /\ ∃ h' tk ks es, s2 = { s with heap := h', toks := tk } /\ zd1 s.heap h' /\ SetE prog w h' s.heap.objs.size ks es /\ Part prog w k0 items items.size ks es) E)
    F.called_set.init.plain F.entry_set_init (check_set_init_1 hT ?_)) fun r2 s2 hr2 => ?_
   ·obtain ⟨ol, hol, hcl, nl, hdl⟩ := id hl
    obtain ⟨ocls, odict, odata, oslots⟩ := ol
    simp only at hcl hdl
    subst hcl; subst hdl
    have hol' := k1 _ _ hol
    have hsls := F.sub_list_set
    have hslf := F.sub_list_frozenset
    have hne : (Value.type "list" == Value.type "dict") = false := by decide
    have hl1 : hp1.IsList l items := ⟨_, hol', rfl, nl, rfl⟩
    unfold Builtin.«set.__init__» noKeywords Builtin.Frozenset.updateFrom
    generalize hPI : pyIter = PI
    wp_walk
    subst hPI
    refine wpAny_pyIter_list hl1 ?_
    refine wpAny_bind (wpAny_runValue ?_)
    have hlS : l < s.heap.objs.size := Heap.lt_size hol
    have hIt : (hp1.push { cls := .type "list_iterator", data := .fields #[.ref l, .int 0 0] }).IsListIter hp1.objs.size l 0 := ⟨_, Heap.get?_push_size _ rfl, rfl, rfl⟩
    refine zp8 (S:=s.heap.objs.size) (I:=hp1.objs.size) (l:=l) (items:=items) (k0:=k0) (f:=f) ?hu ?hh ?n1 ?n2 ?n3 hlen hn hf (items.size - 0) 0 _ [] #[] (by lia) (Nat.zero_le _) hIt (hl1.push _) (zqx rfl (zbi _ _ hS)) ⟨fun k => ⟨(fun h => by cases h), (fun ⟨j, hj, _⟩ => by lia)⟩, by simp, (fun e he => by cases he)⟩ (fun j v k a b => SK.is_mono (fun b u _ e => zbi _ _ (k1 _ _ e)) (hkey j v k a b)) ?hR
    case hu => simp only [Around.in1_units]; lia
    case hh => simp [hh]
    case n1 => rw [z1]; exact Nat.ne_of_lt (Nat.lt_succ_self _)
    case n2 => exact Nat.ne_of_gt hlS
    case n3 => rw [z1]; exact Nat.ne_of_lt (Nat.lt_succ_of_lt hlS)
    case hR =>
     intro s' ks' es' kp ⟨tk', hs'⟩ S' p'
     show wpAny _ _ _ _ _ _
     refine wpAny_pure ?_
     show wpAny _ _ (ret Value.none) _ _ _
     refine wpAny_pure ⟨rfl, s'.heap, tk', ks', es', hs', fun b o e => ?_, S', p'⟩
     have hb := Heap.lt_size e
     exact kp b o (by rw [z1]; exact Nat.ne_of_lt (Nat.lt_succ_of_lt hb)) (Nat.ne_of_lt hb) (zbi _ _ (k1 _ _ e))
   ·cases r2 with
    | error e => exact hr2
    | ok fl2 =>
     cases fl2 with
     | ret r =>
      obtain ⟨rfl, h', tk, ks, es, rfl, a1, a2, a3⟩ := hr2
      repeat (any_goals (first | assumption | wp_step))
      exact q _ _ _ _ a1 a2 a3
     | _ => exact hr2.elim
  | _ => exact hr.elim
end
end L2
namespace L2
open PySem PySem.Spec PyProof.Rows L2T
end L2
namespace L2
open PySem PySem.Spec PyProof.Rows L2T
section
variable {prog : Program} {w : World} {A : Around} {E : Value -> Shared -> Prop} {s : Shared}
structure Took (kb : List SK) (p : SK -> Bool) (es0 : List (Int × Value)) (kd : List SK) (kr : List SK) (er : Array (Int × Value)) : Prop where
 mem : ∀ k, k ∈ kr ↔ k ∈ kb \/ (k ∈ kd /\ p k = true)
 len : kr.length <= kb.length + kd.length
 ent : ∀ e ∈ er.toList, e ∈ es0
end
end L2
namespace L2
open PySem PySem.Spec PyProof.Rows L2T
end L2
namespace L2
open PySem PySem.Spec PyProof.Rows L2T
end L2
namespace L2
open PySem PySem.Spec PyProof.Rows L2T
end L2
namespace L2
open PySem PySem.Spec PyProof.Rows L2T
end L2
namespace L2
open PySem PySem.Spec PyProof.Rows L2T
end L2
namespace L2
open PySem PySem.Spec PyProof.Rows L2T
end L2
namespace L2
open PySem PySem.Spec PyProof.Rows L2T
noncomputable def D.kk : D -> Key
 | .int i => .inl i
 | .str l => .inr (T l)
 | _ => .inl 0
noncomputable def D.fl : D -> Bool
 | .int _ => true
 | .str _ => true
 | _ => false
noncomputable def D.sk : D -> SK
 | .tup ds => .many (ds.map D.kk)
 | d => .one d.kk
noncomputable def D.hk : Bool -> D -> Bool
 | true, d => d.fl
 | false, .tup ds => ds.all D.fl
 | false, _ => false
theorem zq7 {d e : D} (h1 : d.fl = true) (h2 : e.fl = true) (h : d.kk = e.kk) : d = e := by
 cases d <;> simp [D.fl] at h1 <;> cases e <;> simp [D.fl] at h2 <;> simp [D.kk] at h
 ·rw [h]
 ·rw [zo0] at h; rw [h]
theorem zo3 : ∀ {ds es : List D}, ds.all D.fl = true -> es.all D.fl = true -> ds.map D.kk = es.map D.kk -> ds = es
 | [], [], _, _, _ => rfl
 | [], _ :: _, _, _, h => by simp at h
 | _ :: _, [], _, _, h => by simp at h
 | d :: ds, e :: es, h1, h2, h => by
  simp only [List.all_cons, Bool.and_eq_true] at h1 h2
  simp only [List.map_cons, List.cons.injEq] at h
  rw [zq7 h1.1 h2.1 h.1, zo3 h1.2 h2.2 h.2]
theorem ztv {f : Bool} {d e : D} (h1 : d.hk f = true) (h2 : e.hk f = true) (h : d.sk = e.sk) : d = e := by
 cases f with
 | true =>
  simp only [D.hk] at h1 h2
  have e1 : d.sk = .one d.kk := by cases d <;> first | rfl | simp [D.fl] at h1
  have e2 : e.sk = .one e.kk := by cases e <;> first | rfl | simp [D.fl] at h2
  rw [e1, e2] at h
  injection h with h
  exact zq7 h1 h2 h
 | false =>
  cases d <;> simp [D.hk] at h1
  cases e <;> simp [D.hk] at h2
  simp [D.sk] at h
  rw [zo3 (by simpa using h1) (by simpa using h2) h]
theorem zjy {f : Bool} {d : D} (h : d.hk f = true) : d.sk.flat = f := by
 cases f with
 | true => cases d <;> simp [D.hk, D.fl] at h <;> rfl
 | false => cases d <;> simp [D.hk] at h; rfl
section
variable (P : Program) (w : World)
noncomputable def zno (p : Addr) (ks : List SK) (xs : List V) : HO := .ext fun h => ∃ o es ep t, h.get? p = some o /\ o.ExactSet /\ SetL w o es ep t /\ es.toList.map (·.1) = ks.map (SK.hash P w) /\ Vals xs (es.toList.map (·.2)) /\ ks.Nodup /\ ks.length <= 1000
end
section
variable {X : Cx} {pins : List (Addr × Obj)} {σ : St} {H : Hp} {s : Shared}
theorem Inv.drw (I : Inv X pins σ H s) (d : Drawn) : Inv X pins σ H { s with drawn := d } := ⟨I.ok, I.os, I.bare, I.base, I.loc, I.cell, I.free, I.freeC, I.pin, I.hok, I.len⟩
theorem zth {d : D} {x : V} {u : Value} (hf : d.fl = true) (r : Rep X.K H d x) (q : RelV x u) : (zak X.prog X.w).is d.kk u = true := by
 cases d <;> simp [D.fl] at hf
 ·rw [r.of_int] at q; obtain ⟨t, rfl⟩ := q; exact zf5 ..
 ·rw [r.of_str] at q; obtain ⟨t, rfl⟩ := q; exact zf9 ..
theorem zre : ∀ {ds : List D} {xs : List V} {us : List Value}, ds.all D.fl = true -> Reps X.K H ds xs -> Vals xs us -> ItemsAre (zak X.prog X.w) (ds.map D.kk) us
 | [], _, _, _, r, q => by rw [Reps] at r; subst r; cases q; exact .nil
 | d :: ds, _, _, hf, r, q => by
  rw [Reps] at r
  obtain ⟨x, xs, rfl, r1, r2⟩ := r
  simp only [List.all_cons, Bool.and_eq_true] at hf
  cases q with
  | cons q1 q2 => exact .cons (zth hf.1 r1 q1) (zre hf.2 r2 q2)
theorem Inv.sk (I : Inv X pins σ H s) {f : Bool} {d : D} {x : V} {u : Value} (hf : d.hk f = true) (r : Rep X.K H d x) (q : RelV x u) : d.sk.is X.prog X.w s.heap u := by
 cases f with
 | true =>
  have e1 : d.sk = .one d.kk := by cases d <;> first | rfl | simp [D.hk, D.fl] at hf
  rw [e1]; exact zth (by simpa [D.hk] using hf) r q
 | false =>
  cases d <;> simp [D.hk] at hf
  rename_i ds
  obtain ⟨p, xs, rfl, sq, rs⟩ := r.of_tup
  cases q
  obtain ⟨its, rv, ⟨o, e, c, n, hd⟩, _⟩ := I.tuple sq
  exact ⟨p, rfl, o, its.toArray, n, e, c, hd, by simpa using zre (by simpa using hf) rs rv⟩
theorem zud (I : Inv X pins σ H s) {f : Bool} : ∀ {ds : List D} {xs : List V} {es : List (Int × Value)}, (∀ d ∈ ds, d.hk f = true) -> Reps X.K H ds xs -> Vals xs (es.map (·.2)) -> es.map (·.1) = (ds.map D.sk).map (SK.hash X.prog X.w) -> Es X.prog X.w s.heap (ds.map D.sk) es
 | [], _, es, _, r, q, _ => by
  rw [Reps] at r; subst r
  cases es with
  | nil => exact .nil
  | cons _ _ => cases q
 | d :: ds, _, es, hf, r, q, hh => by
  rw [Reps] at r
  obtain ⟨x, xs, rfl, r1, r2⟩ := r
  cases es with
  | nil => cases q
  | cons e es =>
   simp only [List.map_cons, List.cons.injEq] at hh
   cases q with
   | cons q1 q2 => exact .cons hh.1 (I.sk (hf d List.mem_cons_self) r1 q1) (zud I (fun d' h => hf d' (List.mem_cons_of_mem _ h)) r2 q2 hh.2)
theorem Inv.setE (I : Inv X pins σ H s) {f : Bool} {a : Addr} {ds : List D} {xs : List V} (e : H a = some (zno X.prog X.w a (ds.map D.sk) xs)) (hf : ∀ d ∈ ds, d.hk f = true) (r : Reps X.K H ds xs) :
  ∃ es, SetE X.prog X.w s.heap a (ds.map D.sk) es /\ Vals xs (es.toList.map (·.2)) := by
 obtain ⟨⟨o, es, ep, t, ho, hx, S, hh, rv, hn, hl⟩, _, _⟩ := I.hok a _ e
 exact ⟨es, ⟨o, ep, t, ho, hx, S.data, S.tab, zud I hf r rv hh, hn, hl, S.led, f, fun k hk => by
  obtain ⟨d, hd, rfl⟩ := List.mem_map.mp hk
  exact zjy (hf d hd)⟩, rv⟩
noncomputable def Src (da : List D) (xa : List V) (db : List D) (xb : List V) (dr : List D) (xr : List V) : Prop :=
 dr.length = xr.length /\ ∀ (i : Nat) d x, dr[i]? = some d -> xr[i]? = some x -> ∃ j : Nat, (da[j]? = some d /\ xa[j]? = some x) \/ (db[j]? = some d /\ xb[j]? = some x)
theorem Src.reps {K : PySem.W.Frag} {F : Hp} {da db dr : List D} {xa xb xr : List V} (h : Src da xa db xb dr xr) (ra : Reps K F da xa) (rb : Reps K F db xb) : Reps K F dr xr := by
 obtain ⟨hl, h⟩ := h
 induction dr generalizing xr with
 | nil => cases xr with
  | nil => exact Reps.nil
  | cons _ _ => simp at hl
 | cons d dr ih => cases xr with
  | nil => simp at hl
  | cons x xr =>
   refine Reps.cons ?_ (ih (by simpa using hl) fun i d' x' h1 h2 => h (i + 1) d' x' h1 h2)
   obtain ⟨j, ⟨h1, h2⟩ | ⟨h1, h2⟩⟩ := h 0 d x rfl rfl
   ·obtain ⟨x', e, r⟩ := ra.get' h1
    rw [h2] at e; cases e; exact r
   ·obtain ⟨x', e, r⟩ := rb.get' h1
    rw [h2] at e; cases e; exact r
theorem Src.mem {da db dr : List D} {xa xb xr : List V} (h : Src da xa db xb dr xr) {d : D} (hd : d ∈ dr) : d ∈ da \/ d ∈ db := by
 obtain ⟨i, hi⟩ := List.mem_iff_getElem?.mp hd
 have hil := (List.getElem?_eq_some_iff.mp hi).1
 obtain ⟨j, ⟨h1, _⟩ | ⟨h1, _⟩⟩ := h.2 i d (xr[i]'(by have := h.1; lia)) hi (List.getElem?_eq_getElem _)
 ·exact .inl (List.mem_of_getElem? h1)
 ·exact .inr (List.mem_of_getElem? h1)
theorem zuh {h : Heap} {k k' : SK} {v : Value} (a : k.is X.prog X.w h v) (b : k'.is X.prog X.w h v) (hf : k.flat = k'.flat) : k = k' := by
 cases k <;> cases k' <;> simp [SK.flat] at hf
 ·exact congrArg _ ((zak X.prog X.w).inj _ _ _ a b)
 ·obtain ⟨u, e1, i1⟩ := a
  obtain ⟨v, e2, i2⟩ := b
  rw [e1] at e2; cases e2
  exact congrArg _ (i1.inj i2)
theorem zp6 {h' : Heap} {r : Addr} {H' : Hp} {dr : List D} {xr : List V} {er : Array (Int × Value)} (S : SetE X.prog X.w h' r (dr.map D.sk) er) (v : Vals xr (er.toList.map (·.2))) : zb4 X.prog X.w H' h' r (zno X.prog X.w r (dr.map D.sk) xr) := by
 obtain ⟨o, ep, t, ho, S⟩ := S
 refine ⟨⟨o, er, ep, t, ho, S.ex, S.lite, ?_, v, S.nod, S.small⟩, ⟨o, ho⟩, ?_⟩
 ·have := S.ent
  generalize dr.map D.sk = kr at this
  generalize er.toList = el at this
  induction this with
  | nil => rfl
  | cons a _ _ ih => simp [a, ih]
 ·rintro h1 h2 ⟨o, es, ep, t, ho, r⟩ k
  exact ⟨o, es, ep, t, k o ho, r⟩
end
end L2
namespace L2
open PySem PySem.Spec PyProof.Rows L2T
section
variable (P : Program) (w : World) (K : PySem.W.Frag)
noncomputable def zo9 (f : Bool) : List V -> Hp -> VK -> Prop := fun vs H Q => ∃ a xs ds, vs = [.ref a] /\ SqL K H a xs /\ Reps K H ds xs /\ (∀ d ∈ ds, d.hk f = true) /\ ds.length <= 1000 /\
 ∀ r dr xr, H r = none -> dr.Nodup -> (∀ d, d ∈ dr ↔ d ∈ ds) -> Src ds xs [] [] dr xr -> Q (.ref r) (upd H r (zno P w r (dr.map D.sk) xr))
end
theorem zuu {f : Bool} {ds : List D} (hf : ∀ d ∈ ds, d.hk f = true) {d : D} (hd : d.hk f = true) : d.sk ∈ ds.map D.sk ↔ d ∈ ds := by
 constructor
 ·intro h
  obtain ⟨e, he, h2⟩ := List.mem_map.mp h
  rw [<- ztv (hf e he) hd h2]; exact he
 ·exact fun h => List.mem_map_of_mem h
theorem zqi {dr : List D} (h : (dr.map D.sk).Nodup) : dr.Nodup := by
 unfold List.Nodup at *
 rw [List.pairwise_map] at h
 exact h.imp fun a e => a (congrArg _ e)
section
variable {X : Cx}
theorem znq {f : Bool} (hc : X.calm = true) (hu : X.A.units + 64 < cLine) : zca X (.type "set") (zo9 X.prog X.w X.K f) := by
 intro pins s σ H vs us Q I r h
 obtain ⟨a, xs, ds, rfl, hq, rs, hf, hl, q⟩ := h
 obtain ⟨u, rfl, ru⟩ := zj8 r
 cases ru
 obtain ⟨its, rv, pl, _⟩ := I.list hq
 have l1 := rs.length
 have l2 := rv.length
 have hk0 : ∀ k ∈ ds.map D.sk, k.flat = f := fun k hk => by obtain ⟨d, hd, rfl⟩ := List.mem_map.mp hk; exact zjy (hf d hd)
 have hkey : ∀ (j : Nat) (v : Value) (k : SK), its.toArray[j]? = some v -> (ds.map D.sk)[j]? = some k -> k.is X.prog X.w s.heap v := fun j v k h1 h2 => by
  rw [List.getElem?_map] at h2
  cases hd : ds[j]? with
  | none => rw [hd] at h2; cases h2
  | some d =>
   rw [hd] at h2
   have : d.sk = k := by simpa using h2
   subst this
   obtain ⟨x, hx, rx⟩ := rs.get' hd
   obtain ⟨u, hu', ru⟩ := rv.get hx
   have h1' : its[j]? = some v := by simpa using h1
   rw [h1'] at hu'; cases hu'
   exact I.sk (hf d (List.mem_of_getElem? hd)) rx ru
 refine zlu (k0:=ds.map D.sk) (f:=f) (by lia) (I.ok.hd hc) pl.isList (by simp; lia) (by simp; lia) hk0 hkey fun h' tk ks es K' S p => ?_
 have hex : ∀ (kr : List SK) (el : List (Int × Value)), Es X.prog X.w h' kr el -> (∀ k ∈ kr, k.flat = f) -> (∀ e ∈ el, ∃ j : Nat, its.toArray[j]? = some e.2) -> ∃ dr xr, dr.map D.sk = kr /\ Vals xr (el.map (·.2)) /\ Src ds xs [] [] dr xr := by
  intro kr el en
  induction en with
  | nil => intro _ _; exact ⟨[], [], rfl, .nil, rfl, fun i d x h => by simp at h⟩
  | @cons k e kr er g1 g2 _ ih =>
   intro hkk hent
   obtain ⟨dr, xr, a1, b1, c1⟩ := ih (fun k h => hkk k (List.mem_cons_of_mem _ h)) fun e h => hent e (List.mem_cons_of_mem _ h)
   obtain ⟨j, hj⟩ := hent e List.mem_cons_self
   have hj' : its[j]? = some e.2 := by simpa using hj
   have hjl := (List.getElem?_eq_some_iff.mp hj').1
   have hjd : ds[j]? = some (ds[j]'(by lia)) := List.getElem?_eq_getElem _
   obtain ⟨x, hx, rx⟩ := rs.get' hjd
   obtain ⟨u, hu', ru⟩ := rv.get hx
   rw [hj'] at hu'; cases hu'
   have hdk := hf _ (List.mem_of_getElem? hjd)
   have hsk : (ds[j]'(by lia)).sk = k := zuh (SK.is_mono K'.T (I.sk hdk rx ru)) g2 (by rw [zjy hdk, hkk k List.mem_cons_self])
   refine ⟨_ :: dr, x :: xr, by rw [List.map_cons, hsk, a1], .cons ru b1, by simp [c1.1], fun i d' x' q1 q2 => ?_⟩
   cases i with
   | zero => simp at q1 q2; subst q1; subst q2; exact ⟨j, .inl ⟨hjd, hx⟩⟩
   | succ i => exact c1.2 i d' x' q1 q2
 obtain ⟨dr, xr, e1, v1, src⟩ := hex ks es.toList (let ⟨_, _, _, _, T⟩ := S; T.ent) (fun k hk => by
   obtain ⟨j, _, hj⟩ := (p.mem k).mp hk
   exact hk0 k (List.mem_of_getElem? hj)) p.ent
 subst e1
 have hnod : dr.Nodup := by obtain ⟨_, _, _, _, T⟩ := S; exact zqi T.nod
 have hdr : ∀ d ∈ dr, d.hk f = true := fun d hd => by
  rcases src.mem hd with z | z
  ·exact hf d z
  ·cases z
 refine ⟨.ref s.heap.objs.size, _, I.laid (t':=tk) K' (Nat.le_refl _) (zp6 S v1), rfl, q _ dr xr (I.hok.fresh (Nat.le_refl _)) hnod (fun d => ⟨fun h => (src.mem h).elim id (fun z => by cases z), fun h => ?_⟩) src⟩
 refine (zuu hdr (hf d h)).mp ((p.mem d.sk).mpr ?_)
 obtain ⟨j, hj⟩ := List.mem_iff_getElem?.mp h
 exact ⟨j, by have := (List.getElem?_eq_some_iff.mp hj).1; simp; lia, by rw [List.getElem?_map, hj]; rfl⟩
end
end L2
namespace L2
open PySem PySem.W PyProof.Rows L2T
section
variable {prog : Program} {w : World} {A : Around} {E : Value -> Shared -> Prop} {s : Shared}
theorem zij {a : Addr} {o : Obj} {ks : List SK} {es : Array (Int × Value)} {ep : Nat} {t : SetTable} {Q : Value -> Shared -> Prop} (Out : List Value -> Array Value -> Prop) (hh : A.handled = none) (ho : s.heap.get? a = some o) (S : SetO prog w s.heap o ks es ep t)
  (hs : ∀ (vs : List Value) (h' : Heap) (d : Drawn) (tk : Nat), vs.Perm (es.toList.map (·.2)) -> 2 <= vs.length -> zdz s.heap h' -> zn0 prog w A.in1.in1 { s with heap := h', drawn := d, toks := tk } vs (Out vs)) (h1 : ∀ vs : List Value, vs.Perm (es.toList.map (·.2)) -> vs.length < 2 -> Out vs vs.toArray)
  (h : ∀ (vs : List Value) out c h' (d : Drawn) (tk : Nat) (l : Addr), vs.Perm (es.toList.map (·.2)) -> zdz s.heap h' -> s.heap.objs.size <= l -> h'.get? l = some (seqObj "list" out c) -> out.size = vs.length -> Out vs out -> Q (.ref l) { s with heap := h', drawn := d, toks := tk }) :
  wpAny (model prog w) A (call (.builtin "sorted") [.ref a]) Q E s := by
 refine Calls.call_function_entry kind_sorted plain_sorted entry_sorted (args_sorted1 _) ?_
 unfold Builtin.«sorted»
 refine wpAny_bind (m:=checkCount "sorted" 1 1 _) (wpAny_pure ?_)
 refine wpAny_bind (zn9 (by simp [hh]) ho S fun vs g1 d tk hp K1 hlt => ?_)
 have hz : vs.length <= sizeLine := by
  have := hp.length_eq
  have := S.small
  have := S.ent.length
  simp at *
  exact zbk (by lia)
 refine wpAny_bind (wpAny_newList ?_ hz)
 dsimp only
 have hl : s.heap.objs.size <= g1.objs.size := Nat.le_of_lt hlt
 have hg : (g1.push { cls := .type "list", data := .seq vs.toArray }).get? g1.objs.size = some (seqObj "list" vs.toArray 0) := Heap.get?_push_size _ rfl
 have k2 : zdz s.heap (g1.push { cls := .type "list", data := .seq vs.toArray }) := fun b u e => Heap.get?_push_of_some _ (K1 b u e)
 have ne : ∀ b u, s.heap.get? b = some u -> b ≠ g1.objs.size := fun b u e => Nat.ne_of_lt (Heap.lt_size (K1 b u e))
 refine wpAny_bind (wpAny_holding (wpAny_call_entry slot_list_sort ⟨_, hg, rfl⟩ entry_list_sort (zet (s:={ s with heap := g1.push { cls := .type "list", data := .seq vs.toArray }, drawn := d, toks := tk }) (Out vs) hg hz
  (fun h2 h' k => hs vs h' d tk hp h2 fun b u e => k b u (ne b u e) (k2 b u e)) (h1 vs hp) fun out c h' k hc hsz hO => ⟨_, rfl, ?_⟩) (args_list_sort _)))
 exact wpAny_pure ⟨_, rfl, h vs out c h' d tk _ hp (fun b u e => k b u (ne b u e) (k2 b u e)) hl hc hsz hO⟩
end
end L2
namespace L2
open PySem PySem.W PyProof.Rows L2T
theorem zco.perm {ds es : List D} (h : zco ds) (p : es.Perm ds) : zco es := by
 rcases h with h | h | ⟨t, ts, h⟩
 ·exact .inl fun d hd => h d (p.mem_iff.mp hd)
 ·exact .inr (.inl fun d hd => h d (p.mem_iff.mp hd))
 ·exact .inr (.inr ⟨t, ts, fun d hd => h d (p.mem_iff.mp hd)⟩)
theorem zco.sub {ds es : List D} (h : zco ds) (p : ∀ d ∈ es, d ∈ ds) : zco es := by
 rcases h with h | h | ⟨t, ts, h⟩
 ·exact .inl fun d hd => h d (p d hd)
 ·exact .inr (.inl fun d hd => h d (p d hd))
 ·exact .inr (.inr ⟨t, ts, fun d hd => h d (p d hd)⟩)
theorem zd6 {ds es : List D} (h : zco ds) (p : es.Perm ds) : zb9 es = zb9 ds := zeo h ((zbl es).trans p) (zdk es)
theorem Src.refl {ds : List D} {xs : List V} (h : ds.length = xs.length) : Src ds xs [] [] ds xs := ⟨h, fun i d x h1 h2 => ⟨i, .inl ⟨h1, h2⟩⟩⟩
theorem zig {us us' : List Value} (p : us'.Perm us) : ∀ {ds : List D} {xs : List V}, ds.length = xs.length -> Vals xs us -> ∃ ds' xs', Vals xs' us' /\ ds'.Perm ds /\ Src ds xs [] [] ds' xs' := by
 have p' := p.symm
 clear p
 induction p' with
 | nil => intro ds xs hl v; exact ⟨ds, xs, v, .refl _, Src.refl hl⟩
 | cons e _ ih =>
  intro ds xs hl v
  cases v with
  | @cons x _ xs _ v1 v2 =>
   cases ds with
   | nil => simp at hl
   | cons d ds =>
    obtain ⟨d2, x2, a, b, c⟩ := ih (by simpa using hl) v2
    refine ⟨d :: d2, x :: x2, .cons v1 a, b.cons _, by simp [c.1], fun i d' x' h1 h2 => ?_⟩
    cases i with
    | zero => simp at h1 h2; subst h1; subst h2; exact ⟨0, .inl ⟨rfl, rfl⟩⟩
    | succ i =>
     obtain ⟨j, hj⟩ := c.2 i d' x' h1 h2
     exact ⟨j + 1, hj.elim (fun z => .inl z) fun z => by simp at z⟩
 | swap e f l =>
  intro ds xs hl v
  cases v with
  | @cons x _ xs _ v1 v2 => cases v2 with
   | @cons y _ xs _ v2 v3 =>
    match ds, hl with
    | d :: d1 :: ds, hl =>
     refine ⟨d1 :: d :: ds, y :: x :: xs, .cons v2 (.cons v1 v3), List.Perm.swap _ _ _, by simpa using hl, fun i d' x' h1 h2 => ?_⟩
     match i with
     | 0 => simp at h1 h2; subst h1; subst h2; exact ⟨1, .inl ⟨rfl, rfl⟩⟩
     | 1 => simp at h1 h2; subst h1; subst h2; exact ⟨0, .inl ⟨rfl, rfl⟩⟩
     | i + 2 => exact ⟨i + 2, .inl ⟨h1, h2⟩⟩
 | trans _ _ ih1 ih2 =>
  intro ds xs hl v
  obtain ⟨d1, x1, a1, b1, c1⟩ := ih1 hl v
  obtain ⟨d2, x2, a2, b2, c2⟩ := ih2 c1.1 a1
  refine ⟨d2, x2, a2, b2.trans b1, c2.1, fun i d' x' h1 h2 => ?_⟩
  obtain ⟨j, hj⟩ := c2.2 i d' x' h1 h2
  rcases hj with ⟨g1, g2⟩ | ⟨g1, _⟩
  ·exact c1.2 j d' x' g1 g2
  ·simp at g1
end L2
namespace L2
open PySem PySem.W PyProof.Rows L2T
noncomputable def EvS (P : Program) (w : World) (K : PySem.W.Frag) (G H₀ L : Hp) (ss : List Sl) (t : TE) (ds : List D) : Prop := ∀ F H σ Q, Sat K G H₀ L F H σ ss ->
 (∀ p xs F' H' ds', Ext F H F' H' -> H p = none -> F' p = none -> H' p = some (zno P w p (ds'.map D.sk) xs) -> Reps K F' ds' xs -> ds'.Nodup -> (∀ d, d ∈ ds' ↔ d ∈ ds) -> Q (.ref p) H') -> t σ H Q
section
variable {P : Program} {w : World} {K : PySem.W.Frag} {G H₀ L : Hp} {ss : List Sl} {t ta tb : TE} {f : Bool} {ds da db dr : List D}
theorem zss (a : EvL K G H₀ L ss t ds) (hf : ∀ d ∈ ds, d.hk f = true) (hl : ds.length <= 1000) : EvS P w K G H₀ L ss (tCB (zo9 P w K f) (za9 t tNil)) ds := fun F H σ Q S q =>
 a F H σ _ S fun p vs F' H' e sq r => ⟨p, vs, ds, rfl, sq, r.mono e.fh, hf, hl, fun l dr xr hl' hn hm src =>
  q l xr F' _ dr (e.newO hl') (e.hh.free hl') (e.fh.free hl') zah (src.reps r Reps.nil) hn hm⟩
end
noncomputable def ded : List D -> List D
 | [] => []
 | d :: ds => if d ∈ ds then ded ds else d :: ded ds
end L2
namespace L2
open PySem PySem.W PyProof.Rows
noncomputable def zeu (K : PySem.W.Frag) : List V -> Hp -> VK -> Prop := fun vs H Q => ∃ a xs ds, vs = [.ref a] /\ SqL K H a xs /\ Reps K H ds xs /\ zco ds /\ ds.length < 64 /\
 ∀ l (p : List Nat), p.Perm (List.range ds.length) -> p.map (fun i => ds.getD i .non) = zb9 ds -> H l = none -> Q (.ref l) (upd H l (.lst (p.map fun i => xs.getD i .non)))
section
variable {X : Cx} {pins : List (Addr × Obj)} {σ : St} {H : Hp} {s : Shared}
theorem zpb {h' : Heap} {ds : List D} {xs : List V} {us : List Value} {A' : Around} (I : Inv X pins σ H s) (rs : Reps X.K H ds xs) (rv : Vals xs us) (hal : zco ds) (h2 : 2 <= us.length) (h64 : us.length < 64) (k : zdz s.heap h') :
  zn0 X.prog X.w A' { s with heap := h' } us (OutK (rk ds) us) := by
 obtain ⟨κ, hk, hlt⟩ := zm1 (A':=A') I rs rv hal h2 k
 exact zft h2 h64 hk hlt
theorem zb6 : zca X (.builtin "sorted") (zeu X.K) := by
 intro pins s σ H xs us Q I r h
 obtain ⟨a, vs, ds, rfl, hq, rs, hal, h64, q⟩ := h
 obtain ⟨u, rfl, ru⟩ := zj8 r
 cases ru
 obtain ⟨its, rv, pl, hz⟩ := I.list hq
 have l1 := rs.length
 have l2 := rv.length
 refine zjp (OutK (rk ds) its) pl.isList (by lia) (fun h2 h' k => zpb I rs rv hal h2 (by lia) k) (fun h1 => ?_) fun out c h' k hc hsz hO => ?_
 ·exact ze2 h1
 ·obtain ⟨p, hp, ho, hs⟩ := hO
  have hmem : ∀ i ∈ p, i < its.length := fun i hi => List.mem_range.mp (hp.mem_iff.mp hi)
  have hpm : (p.map fun i => ds.getD i .non).Perm ds := by
   have h1 := hp.map (fun i => ds.getD i D.non)
   have h2 : (List.range its.length).map (fun i => ds.getD i D.non) = ds := by
    rw [<- l2, <- l1]
    refine List.ext_getElem? fun i => ?_
    rw [List.getElem?_map]
    by_cases hi : i < ds.length
    ·rw [List.getElem?_range hi, List.getElem?_eq_getElem hi]
     simp [List.getD_eq_getElem?_getD, hi]
    ·rw [List.getElem?_eq_none (by simpa using hi), List.getElem?_eq_none (by simpa using hi)]; rfl
   rw [h2] at h1; exact h1
  have hso : (p.map fun i => ds.getD i .non).Pairwise fun a b => a.leB b = true := by
   rw [List.pairwise_map]
   refine List.Pairwise.imp_of_mem (fun {i j} hi hj h => zs8 (by have := hmem i hi; lia) (by have := hmem j hj; lia) h) hs
  have eD := zeo hal hpm hso
  have hv := rv.pick p (by rw [l2]; exact hmem)
  rw [<- ho] at hv
  have hplen : p.length = its.length := by rw [hp.length_eq, List.length_range]
  refine ⟨.ref (s.heap.objs.size + 1), _, I.laid (t':=s.toks) k (Nat.le_succ _) (show zb4 X.prog X.w _ _ _ (.lst _) from ⟨by rw [List.length_map]; lia, out.toList, c, hv, by simpa [seqObj] using hc⟩), rfl, q _ p (by rw [l1, l2]; exact hp) eD (I.hok.fresh (Nat.le_succ _))⟩
end
section
variable {K : PySem.W.Frag} {G H₀ L : Hp} {ss : List Sl} {t : TE} {ds : List D}
theorem zci (a : EvL K G H₀ L ss t ds) (hal : zco ds) (h64 : ds.length < 64) : EvO K G H₀ L ss (tCB (zeu K) (za9 t tNil)) (zb9 ds) := fun F H σ Q S q =>
 a F H σ _ S fun p vs F' H' e sq r => ⟨p, vs, ds, rfl, sq, r.mono e.fh, hal, h64, fun l pm hp hs hl => by
  have hmem : ∀ i ∈ pm, i < ds.length := fun i hi => List.mem_range.mp (hp.mem_iff.mp hi)
  have := r.pick pm hmem
  rw [hs] at this
  exact q l _ F' _ (e.newO hl) (e.hh.free hl) (e.fh.free hl) zah this⟩
end
section
variable (P : Program) (w : World) (K : PySem.W.Frag)
noncomputable def zhe (f : Bool) : List V -> Hp -> VK -> Prop := fun vs H Q => ∃ a xs ds, vs = [.ref a] /\ H a = some (zno P w a (ds.map D.sk) xs) /\ Reps K H ds xs /\ (∀ d ∈ ds, d.hk f = true) /\ zco ds /\ ds.length < 64 /\
 ∀ l xr, H l = none -> Src ds xs [] [] (zb9 ds) xr -> Q (.ref l) (upd H l (.lst xr))
end
section
variable {X : Cx}
theorem zgf {f : Bool} (hc : X.calm = true) : zca X (.builtin "sorted") (zhe X.prog X.w X.K f) := by
 intro pins s σ H vs us Q I r h
 obtain ⟨a, xs, ds, rfl, ha, rs, hf, hal, h64, q⟩ := h
 obtain ⟨u, rfl, ru⟩ := zj8 r
 cases ru
 obtain ⟨es, ⟨o, ep, t, ho, S⟩, v⟩ := I.setE ha hf rs
 refine zij (fun vs out => ∃ ds' xs', Vals xs' vs /\ ds'.Perm ds /\ Src ds xs [] [] ds' xs' /\ OutK (rk ds') vs out) (I.ok.hd hc) ho S (fun vs h' d tk hp h2 k => ?_) (fun vs hp h1 => ?_) fun vs out c h' d tk l hp k hl hcell hsz hO => ?_
 ·obtain ⟨d2, x2, v2, p2, s2⟩ := zig hp rs.length v
  obtain ⟨κ, z1, z2⟩ := zpb (A':=X.A.in1.in1) ((I.kept (h':=h') (t':=tk) k).drw d) (s2.reps rs Reps.nil) v2 (hal.perm p2) h2 (by have := p2.length_eq; have := s2.1; have := v2.length; lia) (fun _ _ e => e)
  exact ⟨κ, z1, fun Q E hQ => z2 Q E fun st' e1 e2 e3 => hQ st' e1 e2 ⟨d2, x2, v2, p2, s2, e3⟩⟩
 ·obtain ⟨d2, x2, v2, p2, s2⟩ := zig hp rs.length v
  exact ⟨d2, x2, v2, p2, s2, ze2 h1⟩
 ·obtain ⟨d2, x2, v2, p2, s2, p, hpp, hout, hsort⟩ := hO
  have l1 := s2.1
  have l2 := v2.length
  have rs2 : Reps X.K H d2 x2 := s2.reps rs Reps.nil
  have hmem : ∀ i ∈ p, i < vs.length := fun i hi => List.mem_range.mp (hpp.mem_iff.mp hi)
  have hpm : (p.map fun i => d2.getD i .non).Perm d2 := by
   have g1 := hpp.map (fun i => d2.getD i D.non)
   have g2 : (List.range vs.length).map (fun i => d2.getD i D.non) = d2 := by
    rw [<- l2, <- l1]
    refine List.ext_getElem? fun i => ?_
    rw [List.getElem?_map]
    by_cases hi : i < d2.length
    ·rw [List.getElem?_range hi, List.getElem?_eq_getElem hi]
     simp [List.getD_eq_getElem?_getD, hi]
    ·rw [List.getElem?_eq_none (by simpa using hi), List.getElem?_eq_none (by simpa using hi)]; rfl
   rw [g2] at g1; exact g1
  have hso : (p.map fun i => d2.getD i .non).Pairwise fun a b => a.leB b = true := by
   rw [List.pairwise_map]
   exact List.Pairwise.imp_of_mem (fun {i j} hi hj h => zs8 (by have := hmem i hi; lia) (by have := hmem j hj; lia) h) hsort
  have eD : (p.map fun i => d2.getD i .non) = zb9 ds := zeo hal (hpm.trans p2) hso
  have hv := v2.pick p (by rw [l2]; exact hmem)
  rw [<- hout] at hv
  have hplen : p.length = vs.length := by rw [hpp.length_eq, List.length_range]
  have hz : x2.length <= 1000 := by
   have := p2.length_eq
   have := S.small
   simp at *; lia
  refine ⟨.ref l, _, (I.laid (t':=tk) (h':=h') k hl (show zb4 X.prog X.w _ _ _ (.lst (p.map fun i => x2.getD i .non)) from ⟨by rw [List.length_map, hplen, <- l2]; exact zbk (by lia), out.toList, c, hv, by simpa [seqObj] using hcell⟩)).drw d, rfl, q l _ (I.hok.fresh hl) ⟨?_, fun i d' x' h1 h2 => ?_⟩⟩
  ·rw [<- eD]; simp
  ·rw [<- eD, List.getElem?_map] at h1
   rw [List.getElem?_map] at h2
   cases hp : p[i]? with
   | none => rw [hp] at h1; cases h1
   | some j =>
    rw [hp] at h1 h2
    have hj := hmem j (List.mem_of_getElem? hp)
    have e1 : d2[j]? = some d' := by
     have : d2.getD j .non = d' := by simpa using h1
     rw [List.getD_eq_getElem?_getD, List.getElem?_eq_getElem (by lia)] at this
     rw [List.getElem?_eq_getElem (by lia)]; simpa using this
    have e2 : x2[j]? = some x' := by
     have : x2.getD j .non = x' := by simpa using h2
     rw [List.getD_eq_getElem?_getD, List.getElem?_eq_getElem (by lia)] at this
     rw [List.getElem?_eq_getElem (by lia)]; simpa using this
    obtain ⟨j', hj'⟩ := s2.2 j d' x' e1 e2
    exact ⟨j', hj'⟩
end
section
variable {P : Program} {w : World} {K : PySem.W.Frag} {G H₀ L : Hp} {ss : List Sl} {t ta tb : TE} {f : Bool} {ds da db dr : List D}
theorem zg7 (dd : List D) (a : EvS P w K G H₀ L ss t ds) (hf : ∀ d ∈ ds, d.hk f = true) (hal : zco ds) (hn : dd.Nodup) (h64 : dd.length < 64) (hm : ∀ d, d ∈ dd ↔ d ∈ ds) : EvO K G H₀ L ss (tCB (zhe P w K f) (za9 t tNil)) (zb9 dd) := fun F H σ Q S q =>
 a F H σ _ S fun p xs F' H' d1 e hp fp hp1 r n1 m1 => ⟨p, xs, d1, rfl, hp1, r.mono e.fh, fun d h => hf d ((m1 d).mp h), hal.sub fun d h => (m1 d).mp h, by rw [<- ((List.perm_ext_iff_of_nodup hn n1).mpr fun d => by rw [hm, m1]).length_eq]; exact h64, fun l xr hl src => by
  have hp : dd.Perm d1 := (List.perm_ext_iff_of_nodup hn n1).mpr fun d => by rw [hm, m1]
  rw [<- zd6 (hal.sub fun d h => (m1 d).mp h) hp] at src
  exact q l xr F' _ (e.newO hl) (e.hh.free hl) (e.fh.free hl) zah (src.reps r Reps.nil)⟩
end
end L2
namespace L2
open PySem PySem.Spec PyProof.Rows
section
variable {κ : Type} [DecidableEq κ]
noncomputable def valV (kvs : List (κ × V)) (k : κ) : Option V := (kvs.find? fun kv => decide (kv.1 = k)).map (·.2)
noncomputable def putK (kvs : List (κ × V)) (k : κ) (v : V) : List (κ × V) :=
 if (kvs.any fun kv => decide (kv.1 = k)) = true then kvs.map (fun kv => if kv.1 = k then (kv.1, v) else kv) else kvs ++ [(k, v)]
theorem zk1 {p : κ × V} {r : List (κ × V)} {k : κ} (e : p.1 = k) : valV (p :: r) k = some p.2 := by simp [valV, List.find?_cons, e]
theorem zk5 {p : κ × V} {r : List (κ × V)} {k : κ} (e : ¬ p.1 = k) : valV (p :: r) k = valV r k := by simp [valV, List.find?_cons, e]
theorem zla (k : κ) : ∀ kvs : List (κ × V), (kvs.any fun kv => decide (kv.1 = k)) = (valV kvs k).isSome
 | [] => rfl
 | p :: r => by
  rw [List.any_cons]
  by_cases e : p.1 = k
  ·simp only [zk1 e, decide_eq_true e, Bool.true_or, Option.isSome_some]
  ·rw [zk5 e, decide_eq_false e, Bool.false_or]; exact zla k r
theorem zj6 (kvs : List (κ × V)) (k : κ) (v : V) : (putK kvs k v).length <= kvs.length + 1 := by
 unfold putK
 split
 ·rw [List.length_map]; omega
 ·rw [List.length_append, List.length_cons, List.length_nil]; omega
theorem zqt {kvs : List (κ × V)} {k : κ} (v : V) (h : valV kvs k = none) : putK kvs k v = kvs ++ [(k, v)] := by
 unfold putK
 rw [zla, h]
 exact if_neg (by decide)
theorem KV.val {kvs : List (κ × V)} {vs : List (κ × Value)} (r : KV kvs vs) (k : κ) : RelO (valV kvs k) (valueAt vs k) := by
 unfold KV at r
 induction r with
 | nil => exact True.intro
 | @cons p q ps qs h t ih =>
  obtain ⟨h1, h2⟩ := h
  by_cases e : p.1 = k
  ·have e' : q.1 = k := h1.symm.trans e
   have b : valueAt (q :: qs) k = some q.2 := by simp [valueAt, List.find?_cons, e']
   rw [zk1 e, b]; exact h2
  ·have e' : ¬ q.1 = k := fun z => e (h1.trans z)
   have b : valueAt (q :: qs) k = valueAt qs k := by simp [valueAt, List.find?_cons, e']
   rw [zk5 e, b]; exact ih
theorem KV.any {kvs : List (κ × V)} {vs : List (κ × Value)} (r : KV kvs vs) (k : κ) : (kvs.any fun kv => decide (kv.1 = k)) = vs.any fun kv => decide (kv.1 = k) := by
 unfold KV at r
 induction r with
 | nil => rfl
 | cons h t ih => rw [List.any_cons, List.any_cons, ih, h.1]
theorem KV.repl {kvs : List (κ × V)} {vs : List (κ × Value)} (r : KV kvs vs) (k : κ) {y : V} {u : Value} (ry : RelV y u) :
  KV (kvs.map fun kv => if kv.1 = k then (kv.1, y) else kv) (vs.map fun kv => if kv.1 = k then (kv.1, u) else kv) := by
 unfold KV at r ⊢
 induction r with
 | nil => exact .nil
 | @cons p q ps qs h t ih =>
  rw [List.map_cons, List.map_cons]
  refine .cons ?_ ih
  obtain ⟨h1, h2⟩ := h
  by_cases e : p.1 = k
  ·rw [if_pos e, if_pos (h1.symm.trans e)]; exact ⟨h1, ry⟩
  ·rw [if_neg e, if_neg (fun z => e (h1.trans z))]; exact ⟨h1, h2⟩
theorem KV.put {kvs : List (κ × V)} {vs : List (κ × Value)} (r : KV kvs vs) (k : κ) {y : V} {u : Value} (ry : RelV y u) : KV (putK kvs k y) (stored vs k u) := by
 unfold putK stored
 rw [r.any k]
 by_cases e : (vs.any fun kv => decide (kv.1 = k)) = true
 ·rw [if_pos e, if_pos e]; exact r.repl k ry
 ·rw [if_neg e, if_neg e]; exact Paired.snoc r ⟨rfl, ry⟩
theorem KV.length {kvs : List (κ × V)} {vs : List (κ × Value)} (r : KV kvs vs) : kvs.length = vs.length := Paired.length r
end
theorem zu4 {P : Program} {w : World} {k : Key} {u : Value} (r : RelV (kV k) u) : (zak P w).is k u = true := by
 cases k with
 | inl i => obtain ⟨t, e⟩ := (show ∃ t, u = Value.int i t from r); subst e; exact zf5 P w i t
 | inr x => obtain ⟨t, e⟩ := (show ∃ t, u = Value.str x t from r); subst e; exact zf9 P w x t
section
variable {P : Program} {w : World} {H : Hp} {h : Heap} {a : Addr}
theorem zu3 {u : HO} (ok : HOk P w H h) (e : Rd H a u) : zb4 P w H h a u := e.ok ok
theorem zva {kvs : List (Key × V)} (ok : HOk P w H h) (e : Rd H a (.dK kvs)) : kvs.length <= sizeLine /\ (a == sysModules) = false /\ ∃ vs, KV kvs vs /\ h.DictOf (zak P w) a vs :=
 show zb4 P w H h a (.dK kvs) from zu3 ok e
theorem zr0 {kvs : List (Key × V)} (ok : HOk P w H h) (e : H a = some (.dK kvs)) : kvs.length <= sizeLine /\ (a == sysModules) = false /\ ∃ vs, KV kvs vs /\ h.DictOf (zak P w) a vs := zva ok (.inl e)
end
section
variable {X : Cx} {pins : List (Addr × Obj)} {σ : St} {H : Hp} {s : Shared} {a : Addr} {y v : V} {u r : Value} {o : Option V} {A : Around} {E : Value -> Shared -> Prop}
theorem Inv.big (I : Inv X pins σ H s) : sysModules < s.heap.objs.size := by
 have h : mainGlobals < s.heap.objs.size := (I.mod.glob.keeps I.bk).lt
 exact Nat.lt_trans (by decide) h
theorem zrv {h' : Heap} {t' : Nat} {ob : HO} (I : Inv X pins σ H s) (mu : Mut (H a)) (hs : Heap.SameBut a s.heap h') (he : ∃ q, h'.get? a = some q) (new : zb4 X.prog X.w (upd H a ob) h' a ob) :
  Inv X pins σ (upd H a ob) { s with heap := h', toks := t' } :=
 I.write (x:=a) (e:=a) mu (.inl rfl) (fun b q hb z => (hs.2 b hb).trans z) he new
theorem ztw {P : Program} {w : World} {H' : Hp} {h' : Heap} {kvs : List (Key × V)} {vs : List (Key × Value)} (z : kvs.length <= sizeLine) (hd : (a == sysModules) = false) (rel : KV kvs vs) (dd : h'.DictOf (zak P w) a vs) :
  zb4 P w H' h' a (.dK kvs) := ⟨z, hd, vs, rel, dd⟩
end
theorem zpw {P : Program} {w : World} {H : Hp} (h : Heap) (hb : sysModules < h.objs.size) : zb4 P w H (h.push { cls := .type "dict", data := .dict #[] }) h.objs.size (.dK []) :=
 ⟨Nat.zero_le _, beq_eq_false_iff_ne.mpr (Ne.symm (Nat.ne_of_lt hb)), [], .nil, Heap.DictOf.new h⟩
noncomputable def zrb : TE := fun _ H Q => ∀ p, H p = none -> Q (.ref p) (upd H p (.dK []))
section
variable {X : Cx} {pos : Pos}
theorem zqh : PE X (.Dict [] [] pos) zrb := fun pins s σ H Q I h =>
 wpAny_Dict_empty ⟨.ref s.heap.objs.size, _, I.laid (a:=s.heap.objs.size) (o:=.dK []) (t':=s.toks) (fun _ _ q => Heap.get?_push_of_some _ q) (Nat.le_refl _) (zpw s.heap I.big), rfl, h _ (I.hok.fresh (Nat.le_refl _))⟩
end
structure M1 (X : Cx) (o : Expr) (m : Str) (apos : Pos) (e : Expr) (cpos : Pos) : Prop where
 base : attributeBase o m X.env (eval o X.env) = eval o X.env
 few : ((backTo cpos (starEach [e] X.env)).all (fun x => !x.1) && (backToKw cpos (keywordEach [] X.env)).all (fun x => x.1.isSome)
  && decide (([e] : List Expr).length + ([] : List Keyword).length + (if ([] : List Keyword).isEmpty then 0 else 1) < 30)) = true
 line : (apos.endLine == cpos.line) = true
 trees : backTo cpos (starEach [e] X.env) = [(false, eval e X.env)]
structure M2 (X : Cx) (o : Expr) (m : Str) (apos : Pos) (e f : Expr) (cpos : Pos) : Prop where
 base : attributeBase o m X.env (eval o X.env) = eval o X.env
 few : ((backTo cpos (starEach [e, f] X.env)).all (fun x => !x.1) && (backToKw cpos (keywordEach [] X.env)).all (fun x => x.1.isSome)
  && decide (([e, f] : List Expr).length + ([] : List Keyword).length + (if ([] : List Keyword).isEmpty then 0 else 1) < 30)) = true
 line : (apos.endLine == cpos.line) = true
 trees : backTo cpos (starEach [e, f] X.env) = [(false, eval e X.env), (false, eval f X.env)]
end L2
namespace L2
open PySem PySem.Spec PyProof.Rows
end L2
namespace L2
open PySem PySem.W PyProof.Rows L2T
noncomputable def zsd (K : PySem.W.Frag) : R2 := fun x y H Q => ∃ l b xs zs, x = .ref l /\ y = .ref b /\ SqL K H l xs /\ SqL K H b zs /\ xs.length + zs.length <= sizeLine /\ ∀ p, H p = none -> Q (.ref p) (upd H p (.lst (xs ++ zs)))
theorem zs9 {X : Cx} : OpR X (binaryOp .Add) (zsd X.K) := by
 intro pins s σ H x y v u Q I rx ry h
 obtain ⟨l, b, xs, zs, rfl, rfl, hl, hb, hz, q⟩ := h
 cases rx
 cases ry
 obtain ⟨its, r, pl, _⟩ := I.list hl
 obtain ⟨its2, r2, pl2, _⟩ := I.list hb
 have z1 := r.length
 have z2 := r2.length
 obtain ⟨⟨cls, dd, data, sl⟩, ho, hc, n, hd⟩ := pl.isList
 obtain ⟨⟨cls2, dd2, data2, sl2⟩, ho2, hc2, n2, hd2⟩ := pl2.isList
 dsimp only at hc hd hc2 hd2
 subst hc; subst hd; subst hc2; subst hd2
 refine concat_meets ⟨_, ho, rfl⟩ ⟨_, ho2, rfl⟩ noFill_list_add seq_list_add PySem.F.slot_list_add PySem.F.entry_list_add (PySem.F.args_list_add_2 _ _) (list_addW l b its.toArray its2.toArray n n2 dd dd2 sl sl2 (by simp; lia)) ⟨ho, ho2, ?_⟩
 have ea : its.toArray ++ its2.toArray = (its ++ its2).toArray := by simp
 rw [ea]
 exact ⟨.ref _, _, I.lnew (t':=s.toks) (r.append r2) (by rw [List.length_append]; omega), rfl, q _ I.fresh⟩
section
variable {K : PySem.W.Frag} {G H₀ L : Hp} {ss : List Sl} {ta tb : TE} {da db : List D}
theorem zsx (a : EvL K G H₀ L ss ta da) (b : EvL K G H₀ L ss tb db) (hz : da.length + db.length <= sizeLine) : EvO K G H₀ L ss (tOp (zsd K) ta tb) (da ++ db) := fun F H σ Q S q =>
 a F H σ _ S fun p vs F1 H1 e1 sq1 r1 => b F1 H1 σ _ (S.ext2 e1) fun p2 vs2 F2 H2 e2 sq2 r2 => by
  have l1 := r1.length
  have l2 := r2.length
  refine ⟨p, p2, vs, vs2, rfl, rfl, SqL.same e2.hh sq1, sq2, by lia, fun l hl => ?_⟩
  have e12 := e1.trans e2
  exact q l _ F2 _ (e12.newO hl) (e12.hh.free hl) (e12.fh.free hl) zah ((r1.mono e2.gf).append r2)
theorem zpm {d : D} {v : V} (r : ∀ H, Rep K H d v) : Ev K G H₀ L ss (tC v) d := fun F H σ Q S q => q _ _ _ (Ext.refl S.ext.fh) (r _)
end
theorem zii {K : PySem.W.Frag} {H : Hp} : ∀ (ls : List (List Nat)), (∀ l ∈ ls, ∀ c ∈ l, c < 128) -> Reps K H (ls.map .str) (ls.map fun l => .str (T l))
 | [], _ => Reps.nil
 | l :: ls, h => Reps.cons (Rep.str (h l List.mem_cons_self)) (zii ls fun l' hl => h l' (List.mem_cons_of_mem _ hl))
theorem zgx : ∀ {ls : List (List Nat)} {us : List Value}, ls.length = us.length -> (∀ (i : Nat) (l : List Nat) (u : Value), ls[i]? = some l -> us[i]? = some u -> ∃ t, u = .str (T l) t) -> Vals (ls.map fun l => V.str (T l)) us
 | [], us, hl, _ => by cases us with
  | nil => exact .nil
  | cons _ _ => simp at hl
 | l :: ls, us, hl, h => by cases us with
  | nil => simp at hl
  | cons u us => exact .cons (h 0 l u rfl rfl) (zgx (by simpa using hl) fun i l' u' h1 h2 => h (i + 1) l' u' h1 h2)
noncomputable def TupK (K : PySem.W.Frag) (a : Addr) (ls : List (List Nat)) : Prop := ∀ H, Rep K H (.tup (ls.map .str)) (.ref a)
theorem zs0 {K : PySem.W.Frag} {a : Addr} {o : Obj} {its : Array Value} {n : Nat} {ls : List (List Nat)} (hk : K.lookup a = some o) (hc : o.cls = .type "tuple") (hd : o.data = .seq its n) (hl : ls.length = its.size) (hs : ls.length <= 1000) (ha : ∀ l ∈ ls, ∀ c ∈ l, c < 128)
  (h : ∀ (i : Nat) (l : List Nat) (u : Value), ls[i]? = some l -> its.toList[i]? = some u -> ∃ t, u = .str (T l) t) : TupK K a ls := fun H =>
 Rep.tup (.inr ⟨o, its, n, hk, hc, hd, by rw [<- hl]; exact zbk (by lia), zgx (by simpa using hl) h⟩) (zii ls ha)
end L2
namespace L2
open PySem PySem.W PyProof.Rows L2T
mutual
noncomputable def D.nl : D -> Bool
 | .lst _ => false
 | .dct _ _ => false
 | .dctT _ _ => false
 | .ins _ _ _ => false
 | .tup a => D.nls a
 | _ => true
noncomputable def D.nls : List D -> Bool
 | [] => true
 | a :: x => a.nl && D.nls x
end
end L2
namespace L2
open PySem PySem.W PyProof.Rows L2T
end L2
namespace L2
open PySem PySem.W PyProof.Rows L2T
noncomputable def zq9 : V -> List V -> Hp -> VK -> Prop := fun x vs H Q => ∃ z, x = .str z /\ vs = [] /\ Builtin.Str.tooLong (Txt.upper z).length = false /\ Q (.str (Txt.upper z)) H
theorem zqd {X : Cx} : MtR X "str.upper" zq9 := by
 intro pins s σ H x xs v us Q I rx rs h
 obtain ⟨z, rfl, rfl, hz, q⟩ := h
 obtain ⟨t, rfl⟩ := rx
 cases rs
 exact SC.upper hz ⟨.str _, H, I.tok _, ⟨_, rfl⟩, q⟩
end L2
namespace L2
open PySem PySem.W PySem.Spec PyProof.Rows
noncomputable def SpR (K : PySem.W.Frag) (pre : List D -> Prop) (R : List D -> List D -> Prop) : Sp := fun vs H Q _ => ∃ G ds, Same G H /\ Reps K G ds vs /\ pre ds /\ ∀ rs, R ds rs -> ∀ p ws G' H', Ext G H G' H' -> H p = none -> G' p = none -> H' p = some (.lst ws) -> Reps K G' rs ws -> Q (.ref p) H'
section
variable {K : PySem.W.Frag} {H : Hp} {vs : List V} {Q : VK} {X : XK} {N : List Str} {t : TS} {pre : List D -> Prop} {R : List D -> List D -> Prop}
theorem ztz (h : SpR K pre R vs H Q X) (hN : vs.length <= N.length) (body : ∀ G ds, pre ds -> (∀ rs, R ds rs -> RtO K G H Q rs) -> Go K G H G { nx := fun _ H' => Q .non H', rt := Q } (slots N.length ds) t) : t { nx := fun _ H' => Q .non H', rt := Q } (zdy N vs) H := by
 obtain ⟨G, ds, sm, r, hp, q⟩ := h
 exact body G ds hp (fun rs hR p ws F H' e h1 h2 h3 r => q rs hR p ws F H' e h1 h2 h3 r) G H _ (zcq sm r hN)
theorem zoa {n : Nat} (hpre : ∀ ds, pre ds -> ds.length = n) (h : SpR K pre R vs H Q X) : vs.length = n := by
 obtain ⟨G, ds, sm, r, hp, q⟩ := h
 rw [<- r.length]; exact hpre ds hp
end
section
variable {K : PySem.W.Frag} {G H₀ L : Hp} {ss : List Sl} {t : TA} {ds : List D} {pre : List D -> Prop} {R : List D -> List D -> Prop} {E : XK} {D0 : Ends}
theorem zsj {i : Nat} (a : EvAF K G H₀ L ss t ds) (hp : pre ds) (h : ∀ rs, R ds rs -> ∀ p, Nx K G H₀ L D0.nx (ss.set i (.o p rs))) : Go K G H₀ L D0 ss (tAsg (zjx (SpR K pre R) [] E t) (zd7 i)) := fun F H σ S =>
 a F H σ _ S fun vs F1 H1 e1 r1 => ⟨F1, ds, e1.fh, by rw [List.append_nil]; exact r1, hp, fun rs hR p ws G' H' e2 h1 h2 h3 r => h rs hR p _ _ _ (S.newO (e1.trans e2) (e1.hh.free h1) h2 h3 r)⟩
end
end L2
namespace L2
open PySem PySem.W PySem.Spec PyProof.Rows
end L2
namespace L2
open PySem PySem.W PyProof.Rows L2T
theorem Reps.rev {K : PySem.W.Frag} {H : Hp} : ∀ {ds : List D} {xs : List V}, Reps K H ds xs -> Reps K H ds.reverse xs.reverse
 | [], xs, h => by rw [Reps] at h; subst h; exact Reps.nil
 | d :: ds, xs, h => by
  rw [Reps] at h
  obtain ⟨x, xs', rfl, h1, h2⟩ := h
  rw [List.reverse_cons, List.reverse_cons]
  exact h2.rev.snoc h1
section
variable {K : PySem.W.Frag} {G H₀ L : Hp} {ss : List Sl} {ta tb t : TE}
theorem zo8 {ta : TA} {n : Int} (a : EvA K G H₀ L ss ta [.int n]) (hb : -(2 ^ 62) <= n /\ n < 2 ^ 62) : EvI K G H₀ L ss (ztk ta) n.toNat fun i => .int (i : Int) := fun F H σ R S q =>
 a F H σ _ S fun vs F1 H1 e1 r1 => by
  rw [Reps] at r1
  obtain ⟨x, r, rfl, rx, r1⟩ := r1
  rw [Reps] at r1
  subst r1
  rw [rx.of_int]
  refine ⟨n, rfl, hb.1, hb.2, q F1 H1 _ e1 fun F2 H2 f1 h1 fh => ⟨fun i hi => ⟨hi, fun x H3 y => ?_⟩, Nat.le_refl _⟩⟩
  obtain ⟨rfl, rfl⟩ := y
  refine ⟨F2, Ext.refl fh, ?_⟩
  have e : (0 : Int) + (i : Int) = (i : Int) := by lia
  rw [e]
  exact Rep.int
theorem zrr {i j : Int} (a : EvB K G H₀ L ss ta (.int i)) (b : EvB K G H₀ L ss tb (.int j)) : Ev K G H₀ L ss (tCB (fun xs H Q => ∃ i j, xs = [.int i, .int j] /\ Q (.int (if j > i then j else i)) H) (za9 ta (za9 tb tNil))) (.int (if j > i then j else i)) := fun F H σ Q S q =>
 a F H σ _ S fun v F1 H1 e1 r1 => b F1 H1 σ _ (S.ext2 e1) fun v2 F2 H2 e2 r2 => by
  rw [r1.of_int, r2.of_int]
  exact ⟨i, j, rfl, q _ F2 H2 (e1.trans e2) Rep.int⟩
theorem zja {ds : List D} (a : EvL K G H₀ L ss t ds) : EvO K G H₀ L ss (zki K (za9 t tNil)) ds.reverse := fun F H σ Q S q =>
 a F H σ _ S fun p vs F' H' e sq r => ⟨p, vs, rfl, sq, fun l hl => q l vs.reverse F' _ (e.newO hl) (e.hh.free hl) (e.fh.free hl) zah r.rev⟩
end
end L2
namespace L2
open PySem PySem.W PySem.Spec PyProof.Rows
end L2
namespace L2
open PySem PySem.W PySem.Spec PyProof.Rows PySem.Builtin PySem.Builtin.Str PySem.StrLaws
end L2
namespace L2
open PySem PySem.W PySem.Spec PyProof.Rows PySem.Builtin PySem.Builtin.Str
end L2
namespace L2
open PySem PySem.W PySem.Spec PyProof.Rows
theorem zoq (g : Nat -> Bool) (l : List Nat) : (stripL g l).length <= l.length := by
 unfold stripL
 rw [List.length_reverse]
 have h1 := (List.dropWhile_sublist g (l:=(l.dropWhile g).reverse)).length_le
 have h2 := (List.dropWhile_sublist g (l:=l)).length_le
 rw [List.length_reverse] at h1
 lia
end L2
namespace L2
open PySem PySem.W PySem.Spec PyProof.Rows
noncomputable def D.isK : D -> Bool
 | .int _ => true | .str _ => true | _ => false
noncomputable def D.key : D -> Key
 | .int i => .inl i | .str l => .inr (T l) | _ => .inl 0
theorem ztd {a b : D} (ha : a.isK = true) (hb : b.isK = true) (h : a.key = b.key) : a = b := by
 cases a <;> cases b <;> simp [D.isK, D.key] at * <;> first | exact h | exact zo0.mp h
theorem zn3 {K : PySem.W.Frag} {H : Hp} {d : D} {v : V} (hk : d.isK = true) (r : Rep K H d v) : v = kV d.key := by
 cases d <;> simp [D.isK] at hk
 ·exact r.of_int
 ·exact r.of_str
noncomputable abbrev DD := List (D × D)
inductive Dks (K : PySem.W.Frag) (F : Hp) : DD -> List (Key × V) -> Prop
 | nil : Dks K F [] []
 | cons {k d : D} {v : V} {kvs : DD} {xs : List (Key × V)} (hk : k.isK = true) (hr : Rep K F k (kV k.key)) (r : Rep K F d v) (t : Dks K F kvs xs) : Dks K F ((k, d) :: kvs) ((k.key, v) :: xs)
section
variable {K : PySem.W.Frag} {F F' : Hp} {kvs : DD} {xs : List (Key × V)}
theorem Dks.mono (h : Dks K F kvs xs) (s : Same F F') : Dks K F' kvs xs := by
 induction h with
 | nil => exact .nil
 | cons hk hr r t ih => exact .cons hk (hr.mono s) (r.mono s) ih
theorem Dks.length (h : Dks K F kvs xs) : kvs.length = xs.length := by
 induction h with
 | nil => rfl
 | cons hk hr r t ih => simp [ih]
theorem zqn {k : D} (hk : k.isK = true) : k.flat = true := by cases k <;> simp [D.isK] at hk <;> rfl
theorem zs1 {K : PySem.W.Frag} {H F : Hp} {k : D} {v : V} (hk : k.isK = true) (r : Rep K H k v) : Rep K F k (kV k.key) := by
 rw [<- zn3 hk r]; exact r.flat (zqn hk)
end
end L2
namespace L2
open PySem PySem.Spec PyProof.Rows
section
variable {X : Cx}
noncomputable def zmg : V -> List V -> Hp -> VK -> Prop := fun x vs H Q => ∃ a kvs k z, x = .ref a /\ vs = [kV k, z] /\ H a = some (.dK kvs) /\ kvs.length < sizeLine /\ (∀ v, valV kvs k = some v -> Q v H) /\ (valV kvs k = none -> Q z (upd H a (.dK (putK kvs k z))))
theorem zho : MtR X "dict.setdefault" zmg := by
 intro pins s σ H x xs v us Q I rx rs h
 obtain ⟨a, kvs, k, z, rfl, rfl, e, hl, q1, q2⟩ := h
 obtain rfl : v = Value.ref a := rx
 obtain ⟨u1, u2, rfl, ry, rz⟩ := zje rs
 obtain ⟨hz, hd, vs, rel, dd⟩ := zr0 I.hok e
 have hzz : vs.length <= sizeLine := by rw [<- rel.length]; exact hz
 refine call_meetsIn PySem.F.slot_dict_setdefault dd.typeIs PySem.F.entry_dict_setdefault (PySem.F.args_dict_setdefault_3 _ _ _) (kt_meets_setdefault (zak X.prog X.w) a (zu4 ry) hd u2) ⟨vs, dd, hzz, fun v' hv => ?_, fun hn h' dd' hs => ?_⟩
 ·have r := rel.val k
  rw [hv] at r
  cases hk : valV kvs k with
  | none => rw [hk] at r; exact r.elim
  | some w' => rw [hk] at r; exact ⟨w', H, I.tok _, r, q1 w' hk⟩
 ·have hk : valV kvs k = none := by
   have r := rel.val k
   rw [hn] at r
   cases hk : valV kvs k with
   | none => rfl
   | some w' => rw [hk] at r; exact r.elim
  have hl2 : (putK kvs k z).length <= sizeLine := by have := zj6 kvs k z; lia
  have he : ∃ q, h'.get? a = some q := let ⟨q, _, _, hq, _⟩ := dd'; ⟨q, hq⟩
  exact ⟨z, _, zrv I (by rw [e]; exact True.intro) hs he (ztw hl2 hd (rel.put k rz) dd'), rz, q2 hk⟩
end
end L2
namespace L2
open PySem PySem.W PySem.Spec PyProof.Rows
noncomputable abbrev KQ := List (D × Addr × List D)
noncomputable def dat (q : D × Addr × List D) : D × List D := (q.1, q.2.2)
noncomputable def raw (q : D × Addr × List D) : Key × V := (q.1.key, .ref q.2.1)
noncomputable def appD : List (D × List D) -> D -> D -> List (D × List D)
 | [], k, d => [(k, [d])]
 | kv :: r, k, d => if kv.1 = k then (kv.1, kv.2 ++ [d]) :: r else kv :: appD r k d
theorem zol {kqs : KQ} {k : D} (hk : k.isK = true) (hks : ∀ q ∈ kqs, q.1.isK = true) : (valV (kqs.map raw) k.key = none /\ ∀ d, appD (kqs.map dat) k d = kqs.map dat ++ [(k, [d])]) \/
  ∃ j a ds, kqs[j]? = some (k, a, ds) /\ valV (kqs.map raw) k.key = some (.ref a) /\ ∀ d, (kqs.set j (k, a, ds ++ [d])).map dat = appD (kqs.map dat) k d := by
 induction kqs with
 | nil => exact .inl ⟨rfl, fun _ => rfl⟩
 | cons q r ih =>
  obtain ⟨k', a', ds'⟩ := q
  by_cases e : k' = k
  ·subst e
   refine .inr ⟨0, a', ds', rfl, by simp [valV, raw], fun d => ?_⟩
   show (k', ds' ++ [d]) :: r.map dat = appD ((k', ds') :: r.map dat) k' d
   rw [appD, if_pos rfl]
  ·have e2 : k'.key ≠ k.key := fun z => e (ztd (hks _ List.mem_cons_self) hk z)
   have hv : valV (((k', a', ds') :: r).map raw) k.key = valV (r.map raw) k.key := by simp [valV, raw, List.find?_cons, e2]
   have ha : ∀ d, appD (((k', a', ds') :: r).map dat) k d = (k', ds') :: appD (r.map dat) k d := fun d => by
    show appD ((k', ds') :: r.map dat) k d = _
    rw [appD, if_neg e]
   rw [hv]
   rcases ih fun q hq => hks q (List.mem_cons_of_mem _ hq) with ⟨h1, h2⟩ | ⟨j, a, ds, h1, h2, h3⟩
   ·exact .inl ⟨h1, fun d => by rw [ha, h2]; rfl⟩
   ·refine .inr ⟨j + 1, a, ds, h1, h2, fun d => ?_⟩
    rw [ha, <- h3]; rfl
noncomputable def lW (K : PySem.W.Frag) (p : Addr) (kqs : KQ) : Hp -> Hp -> Prop := fun F H => H p = some (.dK (kqs.map raw)) /\ ∀ q ∈ kqs, q.1.isK = true /\ Rep K F q.1 (kV q.1.key) /\ ∃ vs, H q.2.1 = some (.lst vs) /\ Reps K F q.2.2 vs
noncomputable def dls (K : PySem.W.Frag) (p : Addr) (kqs : KQ) : Sl := .g (.ref p) (p :: kqs.map (·.2.1)) (lW K p kqs)
theorem zj2 (K : PySem.W.Frag) (p : Addr) (kqs : KQ) : Stab (p :: kqs.map (·.2.1)) (lW K p kqs) := fun F1 H1 F2 H2 sf hh ⟨h1, h2⟩ =>
 ⟨by rw [hh p (by simp)]; exact h1, fun q hq => by
  obtain ⟨a, kr, vs, b, c⟩ := h2 q hq
  exact ⟨a, kr.mono sf, vs, by rw [hh q.2.1 (List.mem_cons_of_mem _ (List.mem_map_of_mem hq))]; exact b, c.mono sf⟩⟩
section
variable {K : PySem.W.Frag} {G H₀ L : Hp} {ss : List Sl} {i : Nat} {p : Addr} {kqs : KQ} {E : Ends} {tk tv : TE} {k d : D}
theorem Sat.getL {F H : Hp} {σ : St} (S : Sat K G H₀ L F H σ ss) (hs : ss[i]? = some (dls K p kqs)) : σ[i]? = some (some (.ref p)) /\ (∀ a ∈ p :: kqs.map (·.2.1), H₀ a = none /\ F a = none) /\ lW K p kqs F H := by
 obtain ⟨v, e, ew, ha, hw, st⟩ := S.get hs (by intro z; cases z)
 cases ew
 exact ⟨e, fun a h => ⟨(ha a h).1, (ha a h).2.1⟩, hw⟩
theorem zqq (h : ∀ p, Nx K G H₀ L E.nx (ss.set i (dls K p []))) : Go K G H₀ L E ss (tAsg zrb (zd7 i)) := fun F H σ S p hp => by
 have e := (Ext.refl S.ext.fh).newO (o:=.dK []) hp
 have S' := S.ext2 e
 refine h p F _ _ (S'.put S'.ext S'.fl (by simp) (fun j hj => zbr (Ne.symm hj)) (fun hi => ?_) (by simp [dls, Sl.ads]) (fun j s' hj hs q hq => ?_) fun j s' hj hs => S'.ok j s' hs)
 ·rw [zbh (by rw [S.len]; exact hi)]
  exact ⟨rfl, fun a ha => by rw [List.mem_singleton.mp ha]; exact ⟨S.ext.hh.free hp, S.ext.fh.free hp, _, zah⟩, ⟨zah, fun _ h => by cases h⟩, zj2 K p []⟩
 ·have : q = p := by simpa [dls, Sl.ads] using hq
  subst this
  exact fun hin => (S.ok j s' hs).live hin hp
theorem zhw {α : Type} {xs : List α} {i : Nat} {x : α} (h : xs[i]? = some x) : xs.set i x = xs := by
 refine List.ext_getElem? fun n => ?_
 by_cases hn : i = n
 ·subst hn; rw [List.getElem?_set_self (List.getElem?_eq_some_iff.mp h).1, h]
 ·rw [List.getElem?_set_ne hn]
theorem Sat.appL {F H : Hp} {σ : St} (S : Sat K G H₀ L F H σ ss) {j : Nat} {a : Addr} {ds es : List D} {vs : List V} (hs : ss[i]? = some (dls K p kqs)) (hj : kqs[j]? = some (k, a, ds)) (r : Reps K F es vs) :
  Sat K G H₀ L F (upd H a (.lst vs)) σ (ss.set i (dls K p (kqs.set j (k, a, es)))) := by
 obtain ⟨e, hoff, hp, hq⟩ := S.getL hs
 have hget : σ.getD i none = some (.ref p) := by rw [List.getD_eq_getElem?_getD, e]; rfl
 have hnd : (p :: kqs.map (·.2.1)).Nodup := S.nd i _ hs
 have hm := List.mem_of_getElem? hj
 have ham : a ∈ p :: kqs.map (·.2.1) := List.mem_cons_of_mem _ (List.mem_map.mpr ⟨_, hm, rfl⟩)
 obtain ⟨a0, af⟩ := hoff a ham
 have hpa : p ≠ a := fun z => (List.nodup_cons.mp hnd).1 (z ▸ List.mem_map.mpr ⟨_, hm, rfl⟩)
 have mset : ∀ {β : Type} (f : D × Addr × List D -> β), f (k, a, es) = f (k, a, ds) -> (kqs.set j (k, a, es)).map f = kqs.map f := fun {β} f hf => by
  rw [List.map_set]
  refine List.ext_getElem? fun n => ?_
  by_cases hn : j = n
  ·subst hn
   rw [List.getElem?_set_self (by rw [List.length_map]; exact (List.getElem?_eq_some_iff.mp hj).1), List.getElem?_map, hj, hf]; rfl
  ·rw [List.getElem?_set_ne hn]
 have hads : (dls K p (kqs.set j (k, a, es))).ads = p :: kqs.map (·.2.1) := by show p :: (kqs.set j (k, a, es)).map (·.2.1) = _; rw [mset (·.2.1) rfl]
 have hdup : ∀ n z, kqs[n]? = some z -> n ≠ j -> z.2.1 ≠ a := fun n z hn hnj hz => by
  have h2 : (kqs.map (·.2.1)).Nodup := (List.nodup_cons.mp hnd).2
  unfold List.Nodup at h2
  rw [List.pairwise_iff_getElem] at h2
  have hnl := (List.getElem?_eq_some_iff.mp hn)
  have hjl := (List.getElem?_eq_some_iff.mp hj)
  have e1 : (kqs.map (·.2.1))[n]'(by simpa using hnl.1) = a := by rw [List.getElem_map, hnl.2]; exact hz
  have e2 : (kqs.map (·.2.1))[j]'(by simpa using hjl.1) = a := by rw [List.getElem_map, hjl.2]
  rcases Nat.lt_or_ge n j with c | c
  ·exact h2 n j (by simpa using hnl.1) (by simpa using hjl.1) c (e1.trans e2.symm)
  ·exact h2 j n (by simpa using hjl.1) (by simpa using hnl.1) (by lia) (e2.trans e1.symm)
 refine S.put (S.ext.write af a0) S.fl rfl (fun _ _ => rfl) (fun _ => ?_) (by rw [hads]; exact hnd) (fun n s' hn h z hz => ?_) fun n s' hn h => (S.ok n s' h).updNe (S.ne i n _ s' (Ne.symm hn) hs h a ham)
 ·rw [hget]
  refine ⟨rfl, fun b hb => ?_, ⟨by rw [zaj hpa, mset raw rfl]; exact hp, fun z hz => ?_⟩, zj2 _ _ _⟩
  ·have hb : b ∈ p :: (kqs.set j (k, a, es)).map (·.2.1) := hb
   rw [mset (·.2.1) rfl] at hb
   obtain ⟨b0, bf⟩ := hoff b hb
   refine ⟨b0, bf, ?_⟩
   by_cases hba : b = a
   ·subst hba; exact ⟨_, zah⟩
   ·rw [zaj hba]
    have := (S.ok i _ hs).live (p:=b) hb
    cases hx : H b with
    | none => exact absurd hx this
    | some o => exact ⟨o, rfl⟩
  ·obtain ⟨n, hn⟩ := List.mem_iff_getElem?.mp hz
   by_cases hnj : j = n
   ·subst hnj
    rw [List.getElem?_set_self (List.getElem?_eq_some_iff.mp hj).1] at hn
    cases hn
    exact ⟨(hq _ hm).1, (hq _ hm).2.1, vs, zah, r⟩
   ·rw [List.getElem?_set_ne hnj] at hn
    obtain ⟨z1, kr, ws, z2, z3⟩ := hq z (List.mem_of_getElem? hn)
    exact ⟨z1, kr, ws, by rw [zaj (hdup n z hn (Ne.symm hnj))]; exact z2, z3⟩
 ·have hz : z ∈ (dls K p (kqs.set j (k, a, es))).ads := hz
  rw [hads] at hz
  exact S.ne i n _ s' (Ne.symm hn) hs h z hz
theorem Sat.keyL {F H : Hp} {σ : St} (S : Sat K G H₀ L F H σ ss) {l : Addr} (hs : ss[i]? = some (dls K p kqs)) (hk : k.isK = true) (kr : Rep K F k (kV k.key)) (hl : H l = none) :
  Sat K G H₀ L F (upd (upd H l (.lst [])) p (.dK ((kqs ++ [(k, l, [])]).map raw))) σ (ss.set i (dls K p (kqs ++ [(k, l, [])]))) := by
 have S2 := S.ext2 ((Ext.refl S.ext.fh).newO (o:=.lst []) hl)
 obtain ⟨e, hoff, hp, hq⟩ := S2.getL hs
 have hget : σ.getD i none = some (.ref p) := by rw [List.getD_eq_getElem?_getD, e]; rfl
 have hnd : (p :: kqs.map (·.2.1)).Nodup := S.nd i _ hs
 obtain ⟨p0, pf⟩ := hoff p List.mem_cons_self
 have hnl : ∀ b ∈ p :: kqs.map (·.2.1), b ≠ l := fun b hb z => (S.ok i _ hs).live (p:=b) hb (z ▸ hl)
 have hpl : p ≠ l := hnl p List.mem_cons_self
 have hads : (dls K p (kqs ++ [(k, l, [])])).ads = (p :: kqs.map (·.2.1)) ++ [l] := by show p :: List.map (fun q : D × Addr × List D => q.2.1) (kqs ++ [(k, l, [])]) = _; rw [List.map_append]; rfl
 refine S2.put (S2.ext.write pf p0) S2.fl rfl (fun _ _ => rfl) (fun _ => ?_) ?_ (fun n s' hn h z hz => ?_) fun n s' hn h => (S2.ok n s' h).updNe (S2.ne i n _ s' (Ne.symm hn) hs h p List.mem_cons_self)
 ·rw [hget]
  refine ⟨rfl, fun b hb => ?_, ⟨zah, fun z hz => ?_⟩, zj2 _ _ _⟩
  ·have hb : b ∈ (dls K p (kqs ++ [(k, l, [])])).ads := hb
   rw [hads] at hb
   rcases List.mem_append.mp hb with hb | hb
   ·obtain ⟨b0, bf⟩ := hoff b hb
    refine ⟨b0, bf, ?_⟩
    by_cases hbp : b = p
    ·subst hbp; exact ⟨_, zah⟩
    ·rw [zaj hbp]
     have := (S2.ok i _ hs).live (p:=b) hb
     cases hx : (upd H l (.lst [])) b with
     | none => exact absurd hx this
     | some o => exact ⟨o, rfl⟩
   ·rw [List.mem_singleton.mp hb]
    exact ⟨S.ext.hh.free hl, S.ext.fh.free hl, _, by rw [zaj (Ne.symm hpl)]; exact zah⟩
  ·rcases List.mem_append.mp hz with hz | hz
   ·obtain ⟨z1, zr, ws, z2, z3⟩ := hq z hz
    have hzp : z.2.1 ≠ p := fun e => (List.nodup_cons.mp hnd).1 (e ▸ List.mem_map_of_mem hz)
    exact ⟨z1, zr, ws, by rw [zaj hzp]; exact z2, z3⟩
   ·rw [List.mem_singleton.mp hz]
    exact ⟨hk, kr, [], by rw [zaj (Ne.symm hpl)]; exact zah, Reps.nil⟩
 ·rw [hads]
  exact List.nodup_append.mpr ⟨hnd, by simp, fun x hx y hy e => by rw [List.mem_singleton.mp hy] at e; exact hnl x hx e⟩
 ·have hz : z ∈ (dls K p (kqs ++ [(k, l, [])])).ads := hz
  rw [hads] at hz
  rcases List.mem_append.mp hz with hz | hz
  ·exact S.ne i n _ s' (Ne.symm hn) hs h z hz
  ·rw [List.mem_singleton.mp hz]
   exact fun hin => (S.ok n s' h).live hin hl
theorem zrt (hs : ss[i]? = some (dls K p kqs)) (b : EvB K G H₀ L ss tk k) (hk : k.isK = true) (a : ∀ kqs', Ev K G H₀ L (ss.set i (dls K p kqs')) tv d) (hz : kqs.length < sizeLine) (hz2 : ∀ q ∈ kqs, q.2.2.length < sizeLine)
  (h : ∀ kqs', kqs'.map dat = appD (kqs.map dat) k d -> Nx K G H₀ L E.nx (ss.set i (dls K p kqs'))) :
  Go K G H₀ L E ss (zl6 (tBM K "list" zhi (tBM K "dict" zmg (tVar i) (za9 tk (za9 (tLst tNil) tNil))) (za9 tv tNil))) := fun F H σ S => by
 obtain ⟨e, hoff, hp, hq⟩ := S.getL hs
 have hks : ∀ q ∈ kqs, q.1.isK = true := fun q hm => (hq q hm).1
 have hil : i < ss.length := (List.getElem?_eq_some_iff.mp hs).1
 refine ⟨.ref p, e, .inr (.inr (.inl ⟨rfl, .inl ⟨_, hp⟩⟩)), b F H σ _ S fun v F1 H1 e1 r1 => ⟨Nat.zero_le _, fun l hl => ?_⟩⟩
 have S1 := S.ext2 e1
 have S2 := S1.ext2 ((Ext.refl S1.ext.fh).newO (o:=.lst []) hl)
 obtain ⟨_, _, hp2, hq2⟩ := S2.getL hs
 refine ⟨p, kqs.map raw, k.key, .ref l, rfl, by rw [zn3 hk r1], hp2, by rw [List.length_map]; exact hz, fun v' hv' => ?_, fun hn => ?_⟩
 ·rcases zol hk hks with ⟨h1, _⟩ | ⟨j, q, ds, h1, h2, h3⟩
  ·rw [h1] at hv'; cases hv'
  ·rw [h2] at hv'; cases hv'
   obtain ⟨_, _, ws, hw, _⟩ := hq2 _ (List.mem_of_getElem? h1)
   have es : ss.set i (dls K p kqs) = ss := zhw hs
   have S2' : Sat K G H₀ L F1 (upd H1 l (.lst [])) σ (ss.set i (dls K p kqs)) := by rw [es]; exact S2
   refine ⟨.inl ⟨rfl, _, SqL.of hw⟩, a kqs F1 _ σ _ S2' fun w F3 H3 e3 r3 => ?_⟩
   have S3 := S2.ext2 e3
   obtain ⟨_, _, _, hq3⟩ := S3.getL hs
   obtain ⟨_, _, ws3, hw3, rs3⟩ := hq3 _ (List.mem_of_getElem? h1)
   refine ⟨q, ws3, w, rfl, rfl, hw3, by rw [<- rs3.length]; exact hz2 _ (List.mem_of_getElem? h1), h _ (h3 d) F3 _ σ (S3.appL hs h1 (rs3.snoc r3))⟩
 ·rcases zol hk hks with ⟨h1, h2⟩ | ⟨j, q, ds, h1, h2, h3⟩
  ·have S4 := S1.keyL (k:=k) hs hk (zs1 hk r1) hl
   have eput : putK (kqs.map raw) k.key (.ref l) = (kqs ++ [(k, l, [])]).map raw := by rw [zqt _ hn, List.map_append]; rfl
   rw [eput]
   have hs4 : (ss.set i (dls K p (kqs ++ [(k, l, [])])))[i]? = some (dls K p (kqs ++ [(k, l, [])])) := List.getElem?_set_self hil
   obtain ⟨_, _, _, hq4⟩ := S4.getL hs4
   have hj : (kqs ++ [(k, l, ([] : List D))])[kqs.length]? = some (k, l, []) := by rw [List.getElem?_append_right (Nat.le_refl _), Nat.sub_self]; rfl
   obtain ⟨_, _, ws, hw, _⟩ := hq4 _ (List.mem_of_getElem? hj)
   refine ⟨.inl ⟨rfl, _, SqL.of hw⟩, a _ F1 _ σ _ S4 fun w F3 H3 e3 r3 => ?_⟩
   have S5 := S4.ext2 e3
   obtain ⟨_, _, _, hq5⟩ := S5.getL hs4
   obtain ⟨_, _, ws5, hw5, rs5⟩ := hq5 _ (List.mem_of_getElem? hj)
   have S6 := S5.appL hs4 hj (rs5.snoc r3)
   rw [List.set_set] at S6
   refine ⟨l, ws5, w, rfl, rfl, hw5, by rw [<- rs5.length]; show 0 < _; rw [sizeLine_eq]; decide, h _ ?_ F3 _ σ S6⟩
   rw [h2, List.set_append_right _ _ (Nat.le_refl _), Nat.sub_self, List.map_append]
   rfl
  ·rw [h2] at hn; cases hn
end
end L2
namespace L2
open PySem PySem.Spec PyProof.Rows
end L2
namespace L2
open PySem PySem.W PySem.Spec PyProof.Rows
section
variable {K : PySem.W.Frag} {G H₀ L : Hp} {ss : List Sl} {i : Nat} {p : Addr} {kqs : KQ} {kvs : DD} {E : Ends} {tk tv : TE} {k d : D}
noncomputable def frzL (q : D × Addr × List D) : D × D := (q.1, .lst q.2.2)
end
end L2
namespace L2
open PySem PySem.Spec PyProof.Rows
end L2
namespace L2
open PySem PySem.Spec PyProof.Rows
open AutoSeq1 (wpAny_loadPart')
end L2
namespace L2
open PySem PySem.Spec PyProof.Rows
end L2
namespace L2
open PySem PySem.Spec PyProof.Rows PySem.Builtin PySem.Builtin.Str
end L2
namespace L2
open PySem PySem.W PySem.Spec PyProof.Rows
structure ITell (K : PySem.W.Frag) (C : Addr) : Prop where
 ha : findIn K (.ref C) "__class__" = some (some (.builtin "object.__class__"))
 hn : specialIn K (.builtin "object.__class__") "__get__" = some (some (.builtin "getset_descriptor.__get__"))
 tk : takesIn K (.builtin "object.__class__") = some true
 hm : mroIn K C (.type "object") = some true
end L2
namespace L2
open PySem PySem.W PySem.Spec PyProof.Rows
end L2
namespace L2
open PySem PySem.Spec PyProof.Rows
section
variable {X : Cx}
theorem zu8 {P : Program} {w : World} {k : Key} {u : Value} (h : (zak P w).is k u = true) : RelV (kV k) u := by
 rcases zar h with ⟨i, t, rfl, rfl⟩ | ⟨x, t, rfl, rfl⟩
 ·exact ⟨t, rfl⟩
 ·exact ⟨t, rfl⟩
end
end L2
namespace L2
open PySem PySem.W PySem.Spec PyProof.Rows
end L2
namespace L2
open PySem PySem.W PySem.Spec PyProof.Rows
end L2
namespace L2
open PySem PySem.W PySem.Spec PyProof.Rows PySem.Calls Builtin Builtin.ObjectAttr Builtin.Getset_descriptor
structure XTell (K : PySem.W.Frag) (C : Addr) : Prop where
 ga : findIn K (.ref C) "__getattribute__" = some (some (.builtin "BaseException.__getattribute__"))
 gt : findIn K (.ref C) "__getattr__" = some none
 mb : mroIn K C (.type "BaseException") = some true
 fc : findIn K (.ref C) "__class__" = some (some (.builtin "object.__class__"))
 sp : specialIn K (.builtin "object.__class__") "__get__" = some (some (.builtin "getset_descriptor.__get__"))
 tk : takesIn K (.builtin "object.__class__") = some true
 mo : mroIn K C (.type "object") = some true
 dc : hasDictIn K C = true
end L2
namespace L2
open PySem PySem.W PyProof.Rows
end L2
namespace L2
open PySem PySem.W PyProof.Rows
end L2
namespace L2
open PySem PySem.W PySem.Spec PyProof.Rows
noncomputable abbrev QS := List (Addr × List D)
section
variable {K : PySem.W.Frag} {G H₀ L : Hp} {ss : List Sl} {i : Nat} {p : Addr} {kqs : KQ} {kvs : DD} {qs : QS} {E : Ends} {D0 : XK} {t : TA} {te ta td : TE} {d : D} {ds : List D} {dss : List (List D)} {pre : List D -> Prop} {res : List D -> List (List D)}
mutual
noncomputable def D.nm : D -> Bool
 | .lst _ => false
 | .dct ks vs => D.nms ks && D.nms vs
 | .dctT _ _ => false
 | .ins _ _ _ => false
 | .tup a => D.nms a
 | _ => true
noncomputable def D.nms : List D -> Bool
 | [] => true
 | a :: x => a.nm && D.nms x
end
noncomputable def cut (F : Hp) (as : List Addr) : Hp := fun b => if b ∈ as then none else F b
end
end L2
namespace L2
open PySem PySem.W PySem.Spec PyProof.Rows
end L2
namespace L2
open PySem PySem.W PyProof.Rows
end L2
namespace L2
open PySem PySem.W PyProof.Rows
end L2
namespace L2
open PySem PySem.W PyProof.Rows
end L2
namespace L2
open PySem PySem.W PyProof.Rows
end L2
namespace L2
open PySem PySem.W PyProof.Rows
section
variable {X : Cx} {pins : List (Addr × Obj)} {σ : St} {H : Hp} {s : Shared} {A' : Around}
theorem Inv.eqAt (I : Inv X pins σ H s) {d e : D} {x y : V} {u v : Value} (r1 : Rep X.K H d x) (rx : RelV x u) (r2 : Rep X.K H e y) (ry : RelV y v) (n1 : d.nb = true) (n2 : e.nb = true) (hd : d.dep <= 60) (hu : A'.units + 64 < cLine) : SeqAt.EqAt A' s u v (decide (d = e)) := by
 obtain ⟨⟨as, a⟩, c1⟩ := I.reads n1 r1 rx
 obtain ⟨⟨bs, b⟩, c2⟩ := I.reads n2 r2 ry
 have h1 := D.toP_depth d
 have := SeqAt.eqAt_reads d.toP e.toP A' s u v as bs a b c1 c2 (by lia)
 rw [D.eqv d e n1 n2] at this
 exact this
theorem Inv.pair (I : Inv X pins σ H s) {h r : D} {x : V} {u : Value} (rp : Rep X.K H (.tup [h, r]) x) (rx : RelV x u) : ∃ a o its n p q x1 x2, u = .ref a /\ s.heap.get? a = some o /\ o.cls = .type "tuple" /\ o.data = .seq its n /\ its.toList = [p, q] /\ Rep X.K H h x1 /\ RelV x1 p /\ Rep X.K H r x2 /\ RelV x2 q := by
 obtain ⟨a, xs, rfl, sq, rs⟩ := rp.of_tup
 cases rx
 obtain ⟨its, rv, ⟨o, e, c, n, hd⟩, _⟩ := I.tuple sq
 rw [Reps] at rs
 obtain ⟨x1, xs, rfl, r1, rs⟩ := rs
 rw [Reps] at rs
 obtain ⟨x2, xs, rfl, r2, rs⟩ := rs
 rw [Reps] at rs
 subst rs
 obtain ⟨p, q, rfl, hp, hq⟩ := zje rv
 exact ⟨a, o, _, n, p, q, x1, x2, rfl, e, c, hd, rfl, r1, hp, r2, hq⟩
noncomputable def D.hd : D -> D
 | .tup (h :: _) => h
 | d => d
end
end L2
namespace L2
open PySem PySem.W PySem.Spec PyProof.Rows
noncomputable def zgt (r d : Addr) : HO := .ext fun h => h.IsItemsView r d
noncomputable def zrc : V -> List V -> Hp -> VK -> Prop := fun x vs H Q => ∃ d kvs, x = .ref d /\ vs = [] /\ H d = some (.dK kvs) /\ ∀ r, H r = none -> Q (.ref r) (upd H r (zgt r d))
noncomputable def updT (H : Hp) : List Addr -> List (V × V) -> Hp
 | t :: ts, kv :: kvs => updT (upd H t (.tup [kv.1, kv.2])) ts kvs
 | _, _ => H
theorem zfi : ∀ {ts : List Addr} {kvs : List (V × V)} {H : Hp} {b : Addr}, b ∉ ts -> updT H ts kvs b = H b
 | [], _, _, _, _ => rfl
 | _ :: _, [], _, _, _ => rfl
 | t :: ts, kv :: kvs, H, b, h => by
  rw [updT, zfi fun z => h (List.mem_cons_of_mem _ z), zaj fun z => h (by rw [z]; exact List.mem_cons_self)]
theorem zji : ∀ {ts : List Addr} {kvs : List (V × V)} {H : Hp} {j : Nat} {t : Addr} {kv : V × V}, ts.Nodup -> ts[j]? = some t -> kvs[j]? = some kv -> updT H ts kvs t = some (.tup [kv.1, kv.2])
 | [], _, _, _, _, _, _, h, _ => by simp at h
 | _ :: _, [], _, _, _, _, _, _, h => by simp at h
 | t :: ts, kv :: kvs, H, 0, t', kv', hn, h1, h2 => by
  simp at h1 h2
  subst h1 h2
  rw [updT, zfi (List.nodup_cons.mp hn).1, zah]
 | t :: ts, kv :: kvs, H, j + 1, t', kv', hn, h1, h2 => by
  rw [updT]
  exact zji (List.nodup_cons.mp hn).2 (by simpa using h1) (by simpa using h2)
section
variable {X : Cx} {pins : List (Addr × Obj)} {σ : St} {H : Hp} {s : Shared} {A' : Around}
theorem zp0 : MtR X "dict.items" zrc := by
 intro pins s σ H x xs v us Q I rx rs h
 obtain ⟨d, kvs, rfl, rfl, e, q⟩ := h
 obtain rfl : v = Value.ref d := rx
 cases rs
 obtain ⟨hz, hd, vs, rel, dd⟩ := zr0 I.hok e
 refine call_meetsIn PySem.F.slot_dict_items dd.typeIs PySem.F.entry_dict_items (PySem.F.args_dict_items_1 _) (meets_dict_items (zak X.prog X.w) d hd) ⟨⟨vs, dd⟩, ?_⟩
 have I2 : Inv X pins σ (upd H s.heap.objs.size (zgt s.heap.objs.size d)) { s with heap := s.heap.push { cls := .type "dict_items", data := .fields #[.ref d] } } :=
  I.laid (t':=s.toks) (fun _ _ q => Heap.get?_push_of_some _ q) (Nat.le_refl _) ⟨⟨_, Heap.get?_push_size _ rfl, rfl, rfl⟩, ⟨_, Heap.get?_push_size _ rfl⟩, fun h1 h2 ⟨o, ho, r⟩ k => ⟨o, k _ ho, r⟩⟩
 exact ⟨.ref s.heap.objs.size, _, I2, rfl, q _ I.fresh⟩
theorem Inv.adoptT {a : Addr} {xs : List V} {us : List Value} (I : Inv X pins σ H s) (hf : FpOk X pins H a) (ho : s.heap.get? a = some { cls := .type "tuple", data := .seq us.toArray }) (r : Vals xs us) (hz : xs.length <= sizeLine) : Inv X pins σ (upd H a (.tup xs)) s := by
 obtain ⟨f0, f1, f2, f3, f4, f5⟩ := hf
 have ne : ∀ b o, b ∉ [a] -> s.heap.get? b = some o -> b ≠ a := fun b o h _ z => h (by simp [z])
 have J := I.step (g':=s.gens) (t':=s.toks) (d':=s.drawn) (h':=s.heap) (H':=upd H a (.tup xs)) (ch:=[a]) (fun b hb => by rw [List.mem_singleton.mp hb]; exact ⟨f3, f1, f4, f5⟩) (fun b o _ _ _ e _ => e) (fun b o _ _ _ e _ => ⟨o.slots, e⟩)
  (fun b o hb e n => by rw [zaj (ne b o hb e)]; exact n) (fun b o _ e => ⟨o, e⟩) (fun b ys e => by rw [zaj (zal e f0)]; exact e) (fun b o u e => by rw [zaj (zal e f0)]; exact e)
  (fun b ps e => ⟨#[], by rw [zaj (zal e f0), e]; simp⟩) (fun m hm => hm) (fun b u e => ?_) I.bare
 ·exact J
 ·by_cases hb : b = a
  ·subst hb
   rw [zah] at e
   cases e
   exact ⟨hz, us, r, ⟨_, ho, rfl, _, rfl⟩⟩
  ·rw [zaj hb] at e
   exact (I.hok b u e).stay (fun c v _ q => q) (fun c q => by rw [zaj (zal q f0)]; exact q) fun c ys q => by rw [zaj (zal q f0)]; exact q
theorem Inv.adoptTs : ∀ (ts : List Addr) (kvs : List (V × V)) {H : Hp}, Inv X pins σ H s -> ts.Nodup -> (∀ t ∈ ts, FpOk X pins H t) -> (∀ (j : Nat) t, ts[j]? = some t -> ∃ kv u1 u2, kvs[j]? = some kv /\ RelV kv.1 u1 /\ RelV kv.2 u2 /\ s.heap.get? t = some { cls := .type "tuple", data := .seq #[u1, u2] }) -> Inv X pins σ (updT H ts kvs) s
 | [], _, _, I, _, _, _ => I
 | _ :: _, [], _, I, _, _, _ => I
 | t :: ts, kv :: kvs, H, I, hn, hf, hp => by
  obtain ⟨n1, n2⟩ := List.nodup_cons.mp hn
  obtain ⟨kv', u1, u2, e, r1, r2, ho⟩ := hp 0 t rfl
  simp at e
  subst e
  rw [updT]
  refine Inv.adoptTs ts kvs (I.adoptT (us:=[u1, u2]) (hf t List.mem_cons_self) ho (.cons r1 (.cons r2 .nil)) (by rw [sizeLine_eq]; simp)) n2 (fun b hb => ?_) fun j b hj => hp (j + 1) b (by simpa using hj)
  obtain ⟨f0, f⟩ := hf b (List.mem_cons_of_mem _ hb)
  exact ⟨by rw [zaj fun z : b = t => n1 (by rw [<- z]; exact hb)]; exact f0, f⟩
theorem zmv {ds : List D} {xs : List V} {us : List Value} (I : Inv X pins σ H s) (rs : Reps X.K H ds xs) (rv : Vals xs us) (hsh : ∀ d ∈ ds, ∃ l r, d = .tup [.str l, r] /\ d.nb = true /\ d.dep <= 60)
  (hdis : ∀ d ∈ ds, ∀ e ∈ ds, d.hd = e.hd -> d = e) (hu : A'.units + 64 < cLine) (h2 : 2 <= us.length) : zrz X.prog X.w A' s us (rk (ds.map D.hd)) := by
 have l1 := rs.length
 have l2 := rv.length
 have at' : ∀ i, i < us.length -> ∃ l r x, ds.getD i .non = .tup [.str l, r] /\ ds.getD i .non ∈ ds /\ (D.tup [.str l, r]).nb = true /\ (D.tup [.str l, r]).dep <= 60 /\ Rep X.K H (.tup [.str l, r]) x /\ RelV x (us.getD i Value.none) := fun i hi => by
  obtain ⟨x, r, q, hm⟩ := zht rs rv hi
  obtain ⟨l, r', e, hn, hd⟩ := hsh _ hm
  rw [e] at r hn hd
  exact ⟨l, r', x, e, hm, hn, hd, r, q⟩
 have hfs : ∀ (l : List Value), (∀ v ∈ l, ∃ a o its n p q, v = .ref a /\ s.heap.get? a = some o /\ o.cls = .type "tuple" /\ o.data = .seq its n /\ its.toList = [p, q] /\ typeOf p = pure (.type "str")) -> ∃ fs, KatTups s.heap l fs /\ fs.length = l.length /\ ∀ f ∈ fs, typeOf f = pure (.type "str") := by
  intro l
  induction l with
  | nil => intro _; exact ⟨[], KatTups.nil, rfl, by simp⟩
  | cons v l ih =>
   intro h
   obtain ⟨fs, h1, h2, h3⟩ := ih fun u hu => h u (List.mem_cons_of_mem _ hu)
   obtain ⟨a, o, its, n, p, q, rfl, hg, hc, hd, hits, hl⟩ := h v List.mem_cons_self
   have h0 : its[0]? = some p := by
    have : its.toList[0]? = some p := by rw [hits]; rfl
    simpa using this
   refine ⟨p :: fs, KatTups.cons hg hc hd h0 h1, by simp [h2], fun g hgm => ?_⟩
   rcases List.mem_cons.mp hgm with rfl | hgm
   ·exact hl
   ·exact h3 g hgm
 obtain ⟨fs, hk1, hk2, hk3⟩ := hfs us fun v hv => by
  obtain ⟨i, hi, rfl⟩ := zhj hv
  obtain ⟨l, r, x, e, hm, hn, hd, rp, q⟩ := at' i hi
  obtain ⟨a, o, its, n, p, q', x1, x2, eu, hg, hc, hdd, hits, r1, rx1, r2, rx2⟩ := I.pair rp q
  refine ⟨a, o, its, n, p, q', eu, hg, hc, hdd, hits, ?_⟩
  rw [r1.of_str] at rx1
  obtain ⟨t, rfl⟩ := rx1
  rfl
 refine ⟨tuples' ((Value.type "str") != Value.type "tuple"), fun Q E q => kat_kind (T:=.type "str") hk1 (by lia) (fun v hv => by rw [hk3 v hv]; exact .now) (by decide) q, fun i j C hi hj hC => ?_⟩
 obtain ⟨l, r, x, e, hm, hn, hd, rp, q⟩ := at' i hi
 obtain ⟨l', r', x', e', hm', hn', hd', rp', q'⟩ := at' j hj
 obtain ⟨a, o, its, n, p1, p2, x1, x2, eu, hg, hc, hdd, hits, r1, rx1, r2, rx2⟩ := I.pair rp q
 obtain ⟨a', o', its', n', p1', p2', x1', x2', eu', hg', hc', hdd', hits', r1', rx1', r2', rx2'⟩ := I.pair rp' q'
 rw [eu, eu']
 have hi' : i < (ds.map D.hd).length := by rw [List.length_map]; lia
 have gd : ∀ m, m < us.length -> (ds.map D.hd).getD m .non = (ds.getD m .non).hd := fun m hm => by
  rw [List.getD_eq_getElem?_getD, List.getD_eq_getElem?_getD, List.getElem?_map, List.getElem?_eq_getElem (show m < ds.length by lia)]; rfl
 rw [zpn hi', gd i hi, gd j hj, e, e'] at hC
 have hC : C (decide ((D.str l).ord < (D.str l').ord)) s := hC
 simp only [D.nb, D.nbs, Bool.and_eq_true, Bool.and_true] at hn hn'
 simp only [D.dep, D.deps] at hd hd'
 refine kat_lt hg hdd hg' hdd' ?_
 rw [decide_eq_false (by
  have z1 := congrArg List.length hits
  have z2 := congrArg List.length hits'
  simp at z1 z2; lia), hits, hits']
 refine kat_cons (I.eqAt r1 rx1 r1' rx1' rfl rfl (by simp [D.dep]) hu _ _ _ _ ?_)
 by_cases he : D.str l = D.str l'
 ·rw [decide_eq_true he]
  have hdd2 : ds.getD i .non = ds.getD j .non := hdis _ hm _ hm' (by rw [e, e']; exact he)
  rw [e, e'] at hdd2
  injection hdd2 with hdd2
  injection hdd2 with ea eb
  injection eb with eb _
  subst eb
  refine kat_yes (kat_cons (I.eqAt r2 rx2 r2' rx2' hn.2 hn'.2 (by lia) hu _ _ _ _ ?_))
  rw [decide_eq_true rfl]
  refine kat_yes (kat_nil ?_)
  rw [<- he, decide_eq_false (List.lt_irrefl _)] at hC
  exact hC
 ·rw [decide_eq_false he]
  refine kat_no ?_
  show wpAny _ _ (oneLt' true _ _) _ _ _
  refine zjz (t:=.s) (d:=.str l) (e:=.str l') rfl rfl (FV.of (t:=.s) rfl r1 rx1) (FV.of (t:=.s) rfl r1' rx1') true ?_
  have : decide ((D.str l).fo < (D.str l').fo) = decide ([(D.str l).fo] < [(D.str l').fo]) := by
   rw [Bool.eq_iff_iff, decide_eq_true_eq, decide_eq_true_eq]; exact (zra _ _).symm
  rw [this]; exact hC
theorem zto {α β : Type} [DecidableEq α] {xs : List (α × β)} (h : (xs.map (·.1)).Nodup) {p q : α × β} (hp : p ∈ xs) (hq : q ∈ xs) (e : p.1 = q.1) : p = q := by
 induction xs with
 | nil => cases hp
 | cons a l ih =>
  rw [List.map_cons, List.nodup_cons] at h
  rcases List.mem_cons.mp hp with h1 | h1
  ·rcases List.mem_cons.mp hq with h2 | h2
   ·rw [h1, h2]
   ·exact absurd (List.mem_map.mpr ⟨q, h2, by rw [<- e, h1]⟩) h.1
  ·rcases List.mem_cons.mp hq with h2 | h2
   ·exact absurd (List.mem_map.mpr ⟨p, h1, by rw [e, h2]⟩) h.1
   ·exact ih h.2 h1 h2
theorem KV.at {kvs : List (Key × V)} {vs : List (Key × Value)} (r : KV kvs vs) : ∀ {j : Nat} {k : Key} {x : Value}, vs[j]? = some (k, x) -> ∃ v, kvs[j]? = some (k, v) /\ RelV v x := by
 induction r with
 | nil => intro j k x h; simp at h
 | @cons p q l1 l2 h t ih =>
  intro j k x hj
  cases j with
  | zero =>
   simp at hj
   subst hj
   obtain ⟨k', v⟩ := p
   simp only at h
   exact ⟨v, by simp [h.1], h.2⟩
  | succ j => simpa using ih (by simpa using hj)
theorem zh3 : ∀ as : List Addr, Vals (as.map V.ref) (as.map Value.ref)
 | [] => .nil
 | _ :: as => .cons rfl (zh3 as)
noncomputable def prD (q : D × D) : D := .tup [q.1, q.2]
theorem zgw {K : PySem.W.Frag} {H H' : Hp} (hs : Same H H') : ∀ {kds : DD} {kvs : List (Key × V)} {as : List Addr}, Dks K H kds kvs -> as.length = kds.length -> (∀ (j : Nat) t kv, as[j]? = some t -> kvs[j]? = some kv -> H' t = some (.tup [kV kv.1, kv.2])) -> Reps K H' (kds.map prD) (as.map V.ref)
 | [], _, [], .nil, _, _ => Reps.nil
 | [], _, _ :: _, .nil, h, _ => by simp at h
 | _ :: _, _, [], .cons _ _ _ _, h, _ => by simp at h
 | _ :: _, _, t :: as, .cons hk hr r dk, hl, h => by
  refine Reps.cons (Rep.tup (SqT.of (h 0 t _ rfl rfl)) (Reps.cons (hr.mono hs) (Reps.cons (r.mono hs) Reps.nil))) (zgw hs dk (by simpa using hl) fun j t' kv h1 h2 => h (j + 1) t' kv (by simpa using h1) (by simpa using h2))
noncomputable def znm (K : PySem.W.Frag) : List V -> Hp -> VK -> Prop := fun xs H Q => ∃ r d kvs kds, xs = [.ref r] /\ H r = some (zgt r d) /\ H d = some (.dK kvs) /\ Dks K H kds kvs /\ (∀ q ∈ kds, ∃ l, q.1 = .str l) /\ (kds.map (·.1)).Nodup /\ (∀ q ∈ kds, q.2.nb = true /\ q.2.dep <= 50) /\ kds.length < 64 /\
 ∀ l (ts : List Addr) (pm : List Nat), pm.Perm (List.range kds.length) -> pm.map (fun i => (kds.map (·.1)).getD i .non) = zb9 (kds.map (·.1)) -> ts.length = kds.length -> ts.Nodup -> (∀ t ∈ ts, H t = none) -> l ∉ ts -> H l = none ->
  Q (.ref l) (upd (updT H ts (kvs.map fun q => (kV q.1, q.2))) l (.lst (pm.map fun i => (ts.map V.ref).getD i .non)))
theorem zh9 (hc : X.calm = true) (hu : X.A.units + 66 < cLine) : zca X (.builtin "sorted") (znm X.K) := by
 intro pins s σ H xs us Q I r h
 obtain ⟨r0, d, kvs, kds, rfl, hr, e, dk, hks, hnd, hnb, h64, q⟩ := h
 obtain ⟨u, rfl, ru⟩ := zj8 r
 cases ru
 obtain ⟨hz, hd, vs, rel, dd⟩ := zr0 I.hok e
 obtain ⟨ep, da⟩ := dd.dictAt
 obtain ⟨hv, _, _⟩ := I.hok r0 _ hr
 have hkl := dk.length
 have hvl := rel.length
 have hzz : vs.length <= sizeLine := by rw [<- hvl]; exact hz
 refine Calls.call_function_entry kind_sorted plain_sorted entry_sorted (args_sorted1 _) ?_
 unfold Builtin.«sorted»
 refine wpAny_bind (m:=checkCount "sorted" 1 1 _) (wpAny_pure ?_)
 refine wpAny_bind (PySem.W.kdx_collect (knd:=zak X.prog X.w) (by simp [I.ok.hd hc]) hv da hzz fun g1 tk as K1 hal hG => ?_)
 have I1 : Inv X pins σ H { s with heap := g1, toks := tk } := I.kept (h':=g1) (t':=tk) K1
 have hfr : ∀ t ∈ as, H t = none := fun t ht => I.hok.fresh (Nat.le_of_lt (hG.above t ht))
 have hfp : ∀ t ∈ as, FpOk X pins H t := fun t ht => I.fpOk (Nat.le_of_lt (hG.above t ht)) (hfr t ht)
 have hndA : as.Nodup := hG.rise.imp fun h => Nat.ne_of_lt h
 have hpr : ∀ (j : Nat) t, as[j]? = some t -> ∃ kv u1 u2, (kvs.map fun q => (kV q.1, q.2))[j]? = some kv /\ RelV kv.1 u1 /\ RelV kv.2 u2 /\ g1.get? t = some { cls := .type "tuple", data := .seq #[u1, u2] } := fun j t hj => by
  obtain ⟨key, k, x, e1, e2, e3⟩ := hG.pairs j t hj
  obtain ⟨v, hv1, hv2⟩ := rel.at e1
  exact ⟨(kV k, v), key, x, by rw [List.getElem?_map, hv1]; rfl, zu8 e2, hv2, e3⟩
 have I2 := Inv.adoptTs as (kvs.map fun q => (kV q.1, q.2)) I1 hndA hfp hpr
 have hsame : Same H (updT H as (kvs.map fun q => (kV q.1, q.2))) := fun b o hb => by
  rw [zfi fun z => by rw [hfr b z] at hb; cases hb]; exact hb
 have rs : Reps X.K (updT H as (kvs.map fun q => (kV q.1, q.2))) (kds.map prD) (as.map V.ref) := zgw hsame dk (by lia) fun j t kv h1 h2 => zji (kvs:=kvs.map fun q => (kV q.1, q.2)) (kv:=(kV kv.1, kv.2)) hndA h1 (by rw [List.getElem?_map, h2]; rfl)
 have rv := zh3 as
 have hzl : (as.map Value.ref).length <= sizeLine := by rw [List.length_map]; lia
 refine wpAny_bind (wpAny_newList ?_ hzl)
 dsimp only
 have hg : (g1.push { cls := .type "list", data := .seq (as.map Value.ref).toArray }).get? g1.objs.size = some (seqObj "list" (as.map Value.ref).toArray 0) := Heap.get?_push_size _ rfl
 have k2 : zdz g1 (g1.push { cls := .type "list", data := .seq (as.map Value.ref).toArray }) := fun b u e => Heap.get?_push_of_some _ e
 have ne : ∀ b u, g1.get? b = some u -> b ≠ g1.objs.size := fun b u e => Nat.ne_of_lt (Heap.lt_size e)
 have hheads : (kds.map prD).map D.hd = kds.map (·.1) := by rw [List.map_map]; rfl
 have hsh : ∀ d ∈ kds.map prD, ∃ l r, d = .tup [.str l, r] /\ d.nb = true /\ d.dep <= 60 := fun d hd => by
  obtain ⟨q, hq, rfl⟩ := List.mem_map.mp hd
  obtain ⟨l, hl⟩ := hks q hq
  obtain ⟨h1, h2⟩ := hnb q hq
  refine ⟨l, q.2, by unfold prD; rw [hl], ?_, ?_⟩
  ·unfold prD; rw [hl]; simp [D.nb, D.nbs, h1]
  ·unfold prD; rw [hl]; simp only [D.dep, D.deps]; omega
 have hdis : ∀ d ∈ kds.map prD, ∀ e ∈ kds.map prD, d.hd = e.hd -> d = e := fun d hd e he h => by
  obtain ⟨q, hq, rfl⟩ := List.mem_map.mp hd
  obtain ⟨q', hq', rfl⟩ := List.mem_map.mp he
  have h : q.1 = q'.1 := h
  rw [zto hnd hq hq' h]
 have hal2 : zco (kds.map (·.1)) := .inl fun d hd => by
  obtain ⟨q, hq, rfl⟩ := List.mem_map.mp hd
  obtain ⟨l, hl⟩ := hks q hq
  rw [hl]; rfl
 refine wpAny_bind (wpAny_holding (wpAny_call_entry slot_list_sort ⟨_, hg, rfl⟩ entry_list_sort (zet (s:={ s with heap := g1.push { cls := .type "list", data := .seq (as.map Value.ref).toArray }, toks := tk }) (OutK (rk (kds.map (·.1))) (as.map Value.ref)) hg hzl
  (fun h2 h' k => ?_) ze2 fun out c h' k hcell hsz hO => ⟨_, rfl, ?_⟩) (args_list_sort _)))
 ·have kk : zdz g1 h' := fun b u e => k b u (ne b u e) (k2 b u e)
  obtain ⟨κ, hk, hlt⟩ := zmv (A':=X.A.in1.in1) (s:={ s with heap := h', toks := tk }) (I2.kept (t':=tk) kk) rs rv hsh hdis (by show X.A.units + 1 + 1 + 64 < _; omega) h2
  rw [hheads] at hlt
  exact zft h2 (by rw [List.length_map]; lia) hk hlt
 ·have kk : zdz g1 h' := fun b u e => k b u (ne b u e) (k2 b u e)
  obtain ⟨p, hp, ho, hs⟩ := hO
  have hmem : ∀ i ∈ p, i < (as.map Value.ref).length := fun i hi => List.mem_range.mp (hp.mem_iff.mp hi)
  have hkk : (kds.map (·.1)).length = (as.map Value.ref).length := by rw [List.length_map, List.length_map]; lia
  have hpm : (p.map fun i => (kds.map (·.1)).getD i .non).Perm (kds.map (·.1)) := by
   have h1 := hp.map (fun i => (kds.map (·.1)).getD i D.non)
   have h2 : (List.range (as.map Value.ref).length).map (fun i => (kds.map (·.1)).getD i D.non) = kds.map (·.1) := by
    rw [<- hkk]
    generalize kds.map (·.1) = ks
    refine List.ext_getElem? fun i => ?_
    rw [List.getElem?_map]
    by_cases hi : i < ks.length
    ·rw [List.getElem?_range hi, List.getElem?_eq_getElem hi]
     simp [List.getD_eq_getElem?_getD, hi]
    ·rw [List.getElem?_eq_none (by simpa using hi), List.getElem?_eq_none (by simpa using hi)]; rfl
   rw [h2] at h1; exact h1
  have hso : (p.map fun i => (kds.map (·.1)).getD i .non).Pairwise fun a b => a.leB b = true := by
   rw [List.pairwise_map]
   exact List.Pairwise.imp_of_mem (fun {i j} hi hj h => zs8 (by have := hmem i hi; lia) (by have := hmem j hj; lia) h) hs
  have eD := zeo hal2 hpm hso
  have hv' := rv.pick p (by rw [rv.length]; exact hmem)
  rw [<- ho] at hv'
  have hplen : p.length = as.length := by rw [hp.length_eq, List.length_range, List.length_map]
  have hl0 : g1.objs.size ∉ as := fun z => absurd (hG.there z) (Nat.lt_irrefl _)
  have hlN : H g1.objs.size = none := I1.hok.fresh (Nat.le_refl _)
  refine wpAny_pure ⟨_, rfl, ?_⟩
  refine ⟨.ref g1.objs.size, _, I2.laid (t':=tk) (h':=h') kk (Nat.le_refl _) (show zb4 X.prog X.w _ _ _ (.lst _) from ⟨by rw [List.length_map]; lia, out.toList, c, hv', by simpa [seqObj] using hcell⟩), rfl, q _ as p (by rw [<- hkk, List.length_map] at hp; exact hp) eD (by lia) hndA hfr hl0 hlN⟩
end
end L2
namespace L2
open PySem PySem.W PySem.Spec PyProof.Rows
noncomputable def SpDL (K : PySem.W.Frag) (pre : List D -> Prop) (res : List D -> List (D × List D)) : Sp := fun vs H Q _ => ∃ G ds, Same G H /\ Reps K G ds vs /\ pre ds /\ ∀ p (kqs : KQ) G' H', Ext G H G' H' -> (∀ a ∈ p :: kqs.map (·.2.1), H a = none /\ G' a = none) -> (p :: kqs.map (·.2.1)).Nodup -> lW K p kqs G' H' -> kqs.map dat = res ds -> Q (.ref p) H'
noncomputable def RtDL (K : PySem.W.Frag) (G H₀ : Hp) (rt : VK) (dss : List (D × List D)) : Prop := ∀ p (kqs : KQ) F H, Ext G H₀ F H -> (∀ a ∈ p :: kqs.map (·.2.1), H₀ a = none /\ F a = none) -> (p :: kqs.map (·.2.1)).Nodup -> lW K p kqs F H -> kqs.map dat = dss -> rt (.ref p) H
noncomputable def frzS (F H : Hp) (as : List Addr) : Hp := fun b => if b ∈ as then H b else F b
theorem zda {F H : Hp} {as : List Addr} {b : Addr} (h : b ∈ as) : frzS F H as b = H b := if_pos h
theorem zdx {F H : Hp} {as : List Addr} {b : Addr} (h : b ∉ as) : frzS F H as b = F b := if_neg h
theorem Ext.freezeS {G H₀ F H : Hp} (x : Ext G H₀ F H) {as : List Addr} (h : ∀ a ∈ as, H₀ a = none /\ F a = none) : Ext G H₀ (frzS F H as) H := by
 refine ⟨fun b o e => ?_, fun b o e => ?_, x.hh, fun b o e => ?_⟩
 ·rw [zdx fun z => by have := x.gf b o e; rw [(h b z).2] at this; cases this]; exact x.gf b o e
 ·by_cases hb : b ∈ as
  ·rw [zda hb] at e; exact e
  ·rw [zdx hb] at e; exact x.fh b o e
 ·rw [zdx fun z => by rw [(h b z).1] at e; cases e]; exact x.no b o e
noncomputable def NP (K : PySem.W.Frag) (H0 F : Hp) (x : List Nat × List D) (v : V) : Prop := ∃ tp a ws, v = .ref tp /\ H0 tp = none /\ H0 a = none /\ F tp = some (.tup [.str (T x.1), .ref a]) /\ F a = some (.lst ws) /\ Reps K F x.2 ws /\ Rep K F (.str x.1) (.str (T x.1))
theorem NP.mono {K : PySem.W.Frag} {H0 F F' : Hp} {x : List Nat × List D} {v : V} (h : NP K H0 F x v) (s : Same F F') : NP K H0 F' x v := by
 obtain ⟨tp, a, ws, e, h1, h2, h3, h4, h5, h6⟩ := h
 exact ⟨tp, a, ws, e, h1, h2, s _ _ h3, s _ _ h4, h5.mono s, h6.mono s⟩
section
variable {K : PySem.W.Frag} {G H₀ L : Hp} {ss : List Sl} {i j : Nat} {p : Addr} {kqs : KQ} {E : Ends} {D0 : XK} {t : TA} {te ta td : TE} {d : D} {ds : List D} {pre : List D -> Prop} {res : List D -> List (D × List D)}
theorem zrw {vs : List V} {H : Hp} {Q : VK} {X : XK} {N : List Str} {ts : TS} (h : SpDL K pre res vs H Q X) (hN : vs.length <= N.length) (body : ∀ G ds, pre ds -> RtDL K G H Q (res ds) -> Go K G H G { nx := fun _ H' => Q .non H', rt := Q } (slots N.length ds) ts) : ts { nx := fun _ H' => Q .non H', rt := Q } (zdy N vs) H := by
 obtain ⟨G, ds, sm, r, hp, q⟩ := h
 exact body G ds hp (fun p ws F H' e h1 h2 h3 h4 => q p ws F H' e h1 h2 h3 h4) G H _ (zcq sm r hN)
theorem zk0 {vs : List V} {H : Hp} {Q : VK} {X : XK} {n : Nat} (hpre : ∀ ds, pre ds -> ds.length = n) (h : SpDL K pre res vs H Q X) : vs.length = n := by
 obtain ⟨G, ds, sm, r, hp, q⟩ := h
 rw [<- r.length]; exact hpre ds hp
theorem zqp (hs : ss[i]? = some (dls K p kqs)) (h : RtDL K G H₀ E.rt (kqs.map dat)) : Go K G H₀ L E ss (tRet (tVar i)) := fun F H σ S => by
 obtain ⟨e, hoff, hw⟩ := S.getL hs
 exact ⟨.ref p, e, h p kqs F H S.ext hoff (S.nd i _ hs) hw rfl⟩
theorem zoe {F H : Hp} (hfh : Same F H) : ∀ {kqs : KQ}, (∀ q ∈ kqs, q.1.isK = true /\ Rep K F q.1 (kV q.1.key) /\ ∃ vs, H q.2.1 = some (.lst vs) /\ Reps K F q.2.2 vs) -> Dks K H (kqs.map frzL) (kqs.map raw)
 | [], _ => .nil
 | q :: kqs, h => by
  obtain ⟨h1, h2, vs, h3, h4⟩ := h q List.mem_cons_self
  exact .cons h1 (h2.mono hfh) (Rep.lst (SqL.of h3) (h4.mono hfh)) (zoe hfh fun z hz => h z (List.mem_cons_of_mem _ hz))
noncomputable def EvPr (K : PySem.W.Frag) (G H₀ L : Hp) (ss : List Sl) (te : TE) (rows : List (List Nat × List D)) : Prop := ∀ F H σ Q, Sat K G H₀ L F H σ ss -> (∀ l vs F' H', Ext F H F' H' -> F' l = some (.lst vs) -> vs.length = rows.length -> (∀ (k : Nat) x v, rows[k]? = some x -> vs[k]? = some v -> NP K H₀ F' x v) -> Q (.ref l) H') -> te σ H Q
theorem zl0 (kl rows : List (List Nat × List D)) (a : EvAF K G H₀ L ss t ds) (hp : pre ds) (he : res ds = kl.map fun q => (D.str q.1, q.2)) (hn : (kl.map (·.1)).Nodup) (hnb : ∀ q ∈ kl, D.nbs q.2 = true /\ D.deps q.2 <= 40) (h64 : kl.length < 64)
  (hrows : ∀ rs : List (List Nat × List D), rs.Perm kl -> rs.map (fun q => D.str q.1) = zb9 (kl.map fun q => D.str q.1) -> rs = rows) : EvPr K G H₀ L ss (tCB (znm K) (za9 (tBM0 K "dict" zrc (zjx (SpDL K pre res) [] D0 t)) tNil)) rows := fun F H σ Q S q =>
 a F H σ _ S fun vs F1 H1 e1 r1 => ⟨F1, ds, e1.fh, by rw [List.append_nil]; exact r1, hp, fun p kqs F2 H2 e2 hoff hnd hw hm => by
  have e12 := e1.trans e2
  refine ⟨.inr (.inr (.inl ⟨rfl, .inl ⟨_, hw.1⟩⟩)), p, _, rfl, rfl, hw.1, fun r hr => ?_⟩
  have hpr : p ≠ r := fun z => by rw [<- z, hw.1] at hr; cases hr
  have e3 := e12.newO (o:=zgt r p) hr
  rw [he] at hm
  have hlen : kqs.length = kl.length := by have := congrArg List.length hm; rwa [List.length_map, List.length_map] at this
  have hat : ∀ (k : Nat) q', kqs[k]? = some q' -> ∃ x, kl[k]? = some x /\ q'.1 = .str x.1 /\ q'.2.2 = x.2 := fun k q' hk => by
   have h1 := congrArg (·[k]?) hm
   simp only [List.getElem?_map, hk, Option.map_some] at h1
   cases hx : kl[k]? with
   | none => rw [hx] at h1; cases h1
   | some x =>
    rw [hx] at h1
    simp only [Option.map_some, Option.some.injEq, dat, Prod.mk.injEq] at h1
    exact ⟨x, rfl, h1.1, h1.2⟩
  have hkeys : (kqs.map frzL).map (·.1) = kl.map fun q => D.str q.1 := by
   have h1 := congrArg (List.map (·.1)) hm
   rw [List.map_map, List.map_map] at h1
   rw [List.map_map]
   exact h1
  have hsame : Same H2 (upd H2 r (zgt r p)) := Same.upd hr
  have hnr : ∀ b, H2 b ≠ none -> b ≠ r := fun b h z => h (z ▸ hr)
  refine ⟨r, p, kqs.map raw, kqs.map frzL, rfl, zah, by rw [zaj hpr]; exact hw.1, (zoe e12.fh hw.2).mono hsame, fun z hz => ?_, ?_, fun z hz => ?_, by rw [List.length_map]; omega, fun l ts pm hpm hs htl htn hth hlt hll => ?_⟩
  ·obtain ⟨q', hq', rfl⟩ := List.mem_map.mp hz
   obtain ⟨k, hk⟩ := List.mem_iff_getElem?.mp hq'
   obtain ⟨x, _, h1, _⟩ := hat k q' hk
   exact ⟨x.1, h1⟩
  ·rw [hkeys]
   have h1 : (kl.map (·.1)).map D.str = kl.map fun q => D.str q.1 := by rw [List.map_map]; rfl
   rw [<- h1]
   unfold List.Nodup at *
   rw [List.pairwise_map]
   exact hn.imp fun h z => h (by injection z)
  ·obtain ⟨q', hq', rfl⟩ := List.mem_map.mp hz
   obtain ⟨k, hk⟩ := List.mem_iff_getElem?.mp hq'
   obtain ⟨x, hx, _, h2⟩ := hat k q' hk
   obtain ⟨b1, b2⟩ := hnb x (List.mem_of_getElem? hx)
   show (D.lst q'.2.2).nb = true /\ (D.lst q'.2.2).dep <= 50
   rw [h2]
   exact ⟨by rw [D.nb_lst]; exact b1, by rw [D.dep_lst]; omega⟩
  rw [List.length_map] at hpm htl
  rw [hkeys] at hs
  generalize hH3 : upd H2 r (zgt r p) = H3 at *
  have hq3 : ∀ b o, H2 b = some o -> H3 b = some o := hsame
  generalize hkv : ((kqs.map raw).map fun q => (kV q.1, q.2)) = kvs at *
  generalize hH4 : upd (updT H3 ts kvs) l (.lst (pm.map fun i => (ts.map V.ref).getD i .non)) = H4
  have s34 : Same H3 H4 := fun b o e => by
   rw [<- hH4, zaj (fun z : b = l => by rw [z, hll] at e; cases e), zfi (fun z => by rw [hth b z] at e; cases e)]
   exact e
  have e4 : Ext F H F2 H4 := ⟨e3.gf, e3.fh.trans s34, e3.hh.trans s34, e3.no⟩
  have hH3n : ∀ b, H3 b = none -> H2 b = none := fun b h => by
   cases e : H2 b with
   | none => rfl
   | some o => rw [hq3 b o e] at h; cases h
  have hnew : ∀ b ∈ l :: (ts ++ kqs.map (·.2.1)), H b = none /\ F2 b = none := fun b hb => by
   rcases List.mem_cons.mp hb with rfl | hb
   ·exact ⟨e12.hh.free (hH3n _ hll), e12.fh.free (hH3n _ hll)⟩
   ·rcases List.mem_append.mp hb with hb | hb
    ·exact ⟨e12.hh.free (hH3n _ (hth b hb)), e12.fh.free (hH3n _ (hth b hb))⟩
    ·obtain ⟨o1, o2⟩ := hoff b (List.mem_cons_of_mem _ hb)
     exact ⟨e1.hh.free o1, o2⟩
  have e5 := e4.freezeS hnew
  have hl4 : H4 l = some (.lst (pm.map fun i => (ts.map V.ref).getD i .non)) := by rw [<- hH4]; exact zah
  have hs5 : Same F2 (frzS F2 H4 (l :: (ts ++ kqs.map (·.2.1)))) := fun b o e => by
   rw [zdx fun z => by rw [(hnew b z).2] at e; cases e]; exact e
  have hmem : ∀ i ∈ pm, i < kqs.length := fun i hi => List.mem_range.mp (hpm.mem_iff.mp hi)
  have hrs : (pm.map fun i => kl.getD i ([], [])) = rows := by
   refine hrows _ ?_ ?_
   ·have h1 := hpm.map (fun i => kl.getD i (([], []) : List Nat × List D))
    have h2 : (List.range kqs.length).map (fun i => kl.getD i (([], []) : List Nat × List D)) = kl := by
     rw [hlen]
     refine List.ext_getElem? fun i => ?_
     rw [List.getElem?_map]
     by_cases hi : i < kl.length
     ·rw [List.getElem?_range hi, List.getElem?_eq_getElem hi]
      simp [List.getD_eq_getElem?_getD, hi]
     ·rw [List.getElem?_eq_none (by simpa using hi), List.getElem?_eq_none (by simpa using hi)]; rfl
    rw [h2] at h1; exact h1
   ·rw [<- hs, List.map_map]
    refine List.map_congr_left fun i hi => ?_
    have := hmem i hi
    show D.str (kl.getD i ([], [])).1 = _
    rw [List.getD_eq_getElem?_getD, List.getD_eq_getElem?_getD, List.getElem?_map, List.getElem?_eq_getElem (by omega)]; rfl
  refine q l _ _ _ e5 (by rw [zda List.mem_cons_self]; exact hl4) (by rw [<- hrs, List.length_map, List.length_map]) fun k x v hx hv => ?_
  rw [<- hrs, List.getElem?_map] at hx
  rw [List.getElem?_map] at hv
  cases hk : pm[k]? with
  | none => rw [hk] at hx; cases hx
  | some i =>
   rw [hk] at hx hv
   simp only [Option.map_some, Option.some.injEq] at hx hv
   have hi := hmem i (List.mem_of_getElem? hk)
   have hit : i < ts.length := by omega
   obtain ⟨x', hx', k1, k2⟩ := hat i kqs[i] (List.getElem?_eq_getElem hi)
   have ex : kl.getD i ([], []) = x' := by rw [List.getD_eq_getElem?_getD, hx']; rfl
   rw [ex] at hx
   subst hx
   obtain ⟨g1, g2, ws, g3, g4⟩ := hw.2 kqs[i] (List.getElem_mem hi)
   have ht4 : H4 ts[i] = some (.tup [.str (T x'.1), .ref kqs[i].2.1]) := by
    rw [<- hH4, zaj (fun z : ts[i] = l => hlt (by rw [<- z]; exact List.getElem_mem hit)), zji (kv:=(.str (T x'.1), .ref kqs[i].2.1)) htn (List.getElem?_eq_getElem hit) (by
     rw [<- hkv, List.getElem?_map, List.getElem?_map, List.getElem?_eq_getElem hi]
     show some (kV kqs[i].1.key, V.ref kqs[i].2.1) = _
     rw [k1]; rfl)]
   have ha4 : H4 kqs[i].2.1 = some (.lst ws) := s34 _ _ (hq3 _ _ g3)
   have m1 : ts[i] ∈ l :: (ts ++ kqs.map (·.2.1)) := List.mem_cons_of_mem _ (List.mem_append_left _ (List.getElem_mem hit))
   have m2 : kqs[i].2.1 ∈ l :: (ts ++ kqs.map (·.2.1)) := List.mem_cons_of_mem _ (List.mem_append_right _ (List.mem_map.mpr ⟨_, List.getElem_mem hi, rfl⟩))
   refine ⟨ts[i], kqs[i].2.1, ws, ?_, S.ext.hh.free (hnew _ m1).1, S.ext.hh.free (hnew _ m2).1, by rw [zda m1]; exact ht4, by rw [zda m2]; exact ha4, by rw [<- k2]; exact g4.mono hs5, ?_⟩
   ·rw [<- hv, List.getD_eq_getElem?_getD, List.getElem?_map, List.getElem?_eq_getElem hit]; rfl
   ·have := g2.mono hs5
    rw [k1] at this
    exact this⟩
end
end L2
namespace L2
open PySem PySem.W PySem.Spec PyProof.Rows
noncomputable abbrev Rw := List Nat × List Nat × List D
noncomputable def rwD (r : Rw) : D := .tup [.str r.1, .str r.2.1, .lst r.2.2]
noncomputable def NR (K : PySem.W.Frag) (H0 F : Hp) (r : Rw) (v : V) : Prop := ∃ tp a ws, v = .ref tp /\ H0 tp = none /\ H0 a = none /\ F tp = some (.tup [.str (T r.1), .str (T r.2.1), .ref a]) /\ F a = some (.lst ws) /\ Reps K F r.2.2 ws /\ Rep K F (.str r.1) (.str (T r.1)) /\ Rep K F (.str r.2.1) (.str (T r.2.1))
theorem NR.mono {K : PySem.W.Frag} {H0 F F' : Hp} {r : Rw} {v : V} (h : NR K H0 F r v) (s : Same F F') : NR K H0 F' r v := by
 obtain ⟨tp, a, ws, e, h1, h2, h3, h4, h5, h6, h7⟩ := h
 exact ⟨tp, a, ws, e, h1, h2, s _ _ h3, s _ _ h4, h5.mono s, h6.mono s, h7.mono s⟩
noncomputable def NRs (K : PySem.W.Frag) (H0 F : Hp) (rows : List Rw) (us : List V) : Prop := us.length = rows.length /\ ∀ (k : Nat) r v, rows[k]? = some r -> us[k]? = some v -> NR K H0 F r v
theorem NRs.mono {K : PySem.W.Frag} {H0 F F' : Hp} {rows : List Rw} {us : List V} (h : NRs K H0 F rows us) (s : Same F F') : NRs K H0 F' rows us := ⟨h.1, fun k r v h1 h2 => (h.2 k r v h1 h2).mono s⟩
theorem NRs.snoc {K : PySem.W.Frag} {H0 F : Hp} {rows : List Rw} {us : List V} {r : Rw} {v : V} (h : NRs K H0 F rows us) (n : NR K H0 F r v) : NRs K H0 F (rows ++ [r]) (us ++ [v]) := by
 refine ⟨by rw [List.length_append, List.length_append, h.1]; rfl, fun k r' v' h1 h2 => ?_⟩
 rcases Nat.lt_trichotomy k rows.length with c | c | c
 ·rw [List.getElem?_append_left c] at h1
  rw [List.getElem?_append_left (by rw [h.1]; exact c)] at h2
  exact h.2 k r' v' h1 h2
 ·subst c
  rw [List.getElem?_append_right (Nat.le_refl _), Nat.sub_self] at h1
  rw [List.getElem?_append_right (by rw [h.1]; exact Nat.le_refl _), h.1, Nat.sub_self] at h2
  cases h1; cases h2
  exact n
 ·rw [List.getElem?_eq_none (by rw [List.length_append, List.length_singleton]; omega)] at h1
  cases h1
noncomputable def zk3 (K : PySem.W.Frag) (pre : List D -> Prop) (res : List D -> List Rw) : Sp := fun vs H Q _ => ∃ G ds, Same G H /\ Reps K G ds vs /\ pre ds /\ ∀ p us G' H', Ext G H G' H' -> H p = none -> G' p = none -> H' p = some (.lst us) -> NRs K H G' (res ds) us -> Q (.ref p) H'
noncomputable def zrn (K : PySem.W.Frag) (G H₀ : Hp) (rt : VK) (rows : List Rw) : Prop := ∀ p us F H, Ext G H₀ F H -> H₀ p = none -> F p = none -> H p = some (.lst us) -> NRs K H₀ F rows us -> rt (.ref p) H
noncomputable def csl (K : PySem.W.Frag) (H₀ : Hp) (a : Addr) (cs : List D) : Sl := .g (.ref a) [] fun F _ => H₀ a = none /\ ∃ ws, F a = some (.lst ws) /\ Reps K F cs ws
theorem zpp (K : PySem.W.Frag) (H₀ : Hp) (a : Addr) (cs : List D) : Stab [] fun F _ => H₀ a = none /\ ∃ ws, F a = some (.lst ws) /\ Reps K F cs ws := fun F1 H1 F2 H2 sf _ ⟨h0, ws, h, r⟩ => ⟨h0, ws, sf _ _ h, r.mono sf⟩
noncomputable def rsl (K : PySem.W.Frag) (H₀ : Hp) (p : Addr) (rows : List Rw) : Sl := .g (.ref p) [p] fun F H => ∃ us, H p = some (.lst us) /\ NRs K H₀ F rows us
theorem zkr (K : PySem.W.Frag) (H₀ : Hp) (p : Addr) (rows : List Rw) : Stab [p] fun F H => ∃ us, H p = some (.lst us) /\ NRs K H₀ F rows us := fun F1 H1 F2 H2 sf hh ⟨us, h, r⟩ => ⟨us, by rw [hh p (by simp)]; exact h, r.mono sf⟩
section
variable {K : PySem.W.Frag} {G H₀ L : Hp} {ss : List Sl} {i j : Nat} {p : Addr} {E : Ends} {D0 : XK} {t : TA} {te ta td : TE} {d : D} {ds : List D} {pre : List D -> Prop} {res : List D -> List Rw} {rows : List Rw}
theorem zpd {vs : List V} {H : Hp} {Q : VK} {X : XK} {N : List Str} {ts : TS} (h : zk3 K pre res vs H Q X) (hN : vs.length <= N.length) (body : ∀ G ds, pre ds -> zrn K G H Q (res ds) -> Go K G H G { nx := fun _ H' => Q .non H', rt := Q } (slots N.length ds) ts) : ts { nx := fun _ H' => Q .non H', rt := Q } (zdy N vs) H := by
 obtain ⟨G, ds, sm, r, hp, q⟩ := h
 exact body G ds hp (fun p us F H' e h1 h2 h3 h4 => q p us F H' e h1 h2 h3 h4) G H _ (zcq sm r hN)
theorem zgv {vs : List V} {H : Hp} {Q : VK} {X : XK} {n : Nat} (hpre : ∀ ds, pre ds -> ds.length = n) (h : zk3 K pre res vs H Q X) : vs.length = n := by
 obtain ⟨G, ds, sm, r, hp, q⟩ := h
 rw [<- r.length]; exact hpre ds hp
theorem Sat.setG0 {F H : Hp} {σ : St} {v : V} {W : Hp -> Hp -> Prop} (S : Sat K G H₀ L F H σ ss) (hw : W F H) (st : Stab [] W) : Sat K G H₀ L F H (σ.set i (some v)) (ss.set i (.g v [] W)) :=
 S.put S.ext S.fl (by simp) (fun j hj => zbr (Ne.symm hj)) (fun hi => by rw [zbh (by rw [S.len]; exact hi)]; exact ⟨rfl, fun a ha => absurd ha List.not_mem_nil, hw, st⟩) (by simp [Sl.ads]) (fun _ _ _ _ p hp => by simp [Sl.ads] at hp) fun j s' _ h => S.ok j s' h
theorem Sat.getR {F H : Hp} {σ : St} (S : Sat K G H₀ L F H σ ss) (hs : ss[i]? = some (rsl K H₀ p rows)) : σ[i]? = some (some (.ref p)) /\ H₀ p = none /\ F p = none /\ ∃ us, H p = some (.lst us) /\ NRs K H₀ F rows us := by
 obtain ⟨v, e, ew, ha, hw, st⟩ := S.get hs (by intro z; cases z)
 cases ew
 obtain ⟨h0, fp, _⟩ := ha p (by simp)
 exact ⟨e, h0, fp, hw⟩
theorem Sat.getC {F H : Hp} {σ : St} {a : Addr} {cs : List D} (S : Sat K G H₀ L F H σ ss) (hs : ss[i]? = some (csl K H₀ a cs)) : σ[i]? = some (some (.ref a)) /\ H₀ a = none /\ ∃ ws, F a = some (.lst ws) /\ Reps K F cs ws := by
 obtain ⟨v, e, ew, ha, hw, st⟩ := S.get hs (by intro z; cases z)
 cases ew
 exact ⟨e, hw⟩
theorem zp1 (h : ∀ p, Nx K G H₀ L E.nx (ss.set i (rsl K H₀ p []))) : Go K G H₀ L E ss (tAsg (tLst tNil) (zd7 i)) := fun F H σ S => ⟨Nat.zero_le _, fun p hp => by
 have e := (Ext.refl S.ext.fh).newO (o:=.lst []) hp
 have S' := S.ext2 e
 refine h p F _ _ (S'.put S'.ext S'.fl (by simp) (fun j hj => zbr (Ne.symm hj)) (fun hi => ?_) (by simp [rsl, Sl.ads]) (fun j s' hj hs q hq => ?_) fun j s' hj hs => S'.ok j s' hs)
 ·rw [zbh (by rw [S.len]; exact hi)]
  exact ⟨rfl, fun a ha => by rw [List.mem_singleton.mp ha]; exact ⟨S.ext.hh.free hp, S.ext.fh.free hp, _, zah⟩, ⟨[], zah, rfl, fun k r v h => by simp at h⟩, zkr K H₀ p []⟩
 ·have : q = p := by simpa [rsl, Sl.ads] using hq
  subst this
  exact fun hin => (S.ok j s' hs).live hin hp⟩
theorem zmj {jf jt jc : Nat} {a : Addr} {f k : List Nat} {cs : List D} (hs : ss[i]? = some (rsl K H₀ p rows)) (hf : ss[jf]? = some (.d (.str f))) (ht : ss[jt]? = some (.d (.str k))) (hc : ss[jc]? = some (csl K H₀ a cs)) (hz : rows.length < sizeLine) (h : Nx K G H₀ L E.nx (ss.set i (rsl K H₀ p (rows ++ [(f, k, cs)])))) :
  Go K G H₀ L E ss (zl6 (tBM K "list" zhi (tVar i) (za9 (tTup (za9 (tVar jf) (za9 (tVar jt) (za9 (tVar jc) tNil)))) tNil))) := fun F H σ S => by
 obtain ⟨e, h0, fp, us, hp, hn⟩ := S.getR hs
 refine ⟨.ref p, e, .inl ⟨rfl, _, SqL.of hp⟩, ?_⟩
 obtain ⟨vf, ef, rf⟩ := S.getD hf
 obtain ⟨vt, et, rt⟩ := S.getD ht
 obtain ⟨ec, a0, ws, ha, rw'⟩ := S.getC hc
 refine ⟨vf, ef, vt, et, .ref a, ec, by rw [sizeLine_eq]; simp, fun tp htp => ?_⟩
 have e1 := (Ext.refl S.ext.fh).newF (o:=.tup [vf, vt, .ref a]) htp
 have S1 := S.ext2 e1
 obtain ⟨_, _, fp1, us1, hp1, hn1⟩ := S1.getR hs
 obtain ⟨_, _, ws1, ha1, rw1⟩ := S1.getC hc
 have rf' := rf.of_str
 have rt' := rt.of_str
 subst rf' rt'
 refine ⟨p, us1, .ref tp, rfl, rfl, hp1, by rw [hn1.1]; exact hz, h (upd F tp (.tup [.str (T f), .str (T k), .ref a])) _ σ ?_⟩
 have hget : σ.getD i none = some (.ref p) := by rw [List.getD_eq_getElem?_getD, e]; rfl
 have hnr : NR K H₀ (upd F tp (.tup [.str (T f), .str (T k), .ref a])) (f, k, cs) (.ref tp) := ⟨tp, a, ws1, rfl, S.ext.hh.free htp, a0, zah, ha1, rw1, rf.mono e1.gf, rt.mono e1.gf⟩
 refine S1.put (S1.ext.write fp1 h0) S1.fl rfl (fun _ _ => rfl) (fun _ => ?_) (by simp [rsl, Sl.ads]) (fun j s' hj h' q hq => ?_) fun j s' hj h' => (S1.ok j s' h').updNe (S1.ne i j _ s' (Ne.symm hj) hs h' p (by simp [rsl, Sl.ads]))
 ·rw [hget]
  exact ⟨rfl, fun b hb => by rw [List.mem_singleton.mp hb]; exact ⟨h0, fp1, _, zah⟩, ⟨_, zah, hn1.snoc hnr⟩, zkr K H₀ p _⟩
 ·have : q = p := by simpa [rsl, Sl.ads] using hq
  subst this
  exact S1.ne i j _ s' (Ne.symm hj) hs h' q (by simp [rsl, Sl.ads])
theorem zls (hs : ss[i]? = some (rsl K H₀ p rows)) (h : zrn K G H₀ E.rt rows) : Go K G H₀ L E ss (tRet (tVar i)) := fun F H σ S => by
 obtain ⟨e, h0, fp, us, hp, hn⟩ := S.getR hs
 exact ⟨.ref p, e, h p us F H S.ext h0 fp hp hn⟩
theorem zrq {tb : TS} (prs : List (List Nat × List D)) (I : Nat -> List Sl -> Prop) (a : EvPr K G H₀ L ss te prs) (h0 : I 0 ss)
  (hs : ∀ L' k x ss b, Same L L' -> prs[k]? = some x -> I k ss -> ∀ N, (∀ ss, I (k + 1) ss -> Nx K G H₀ L' N ss) -> Go K G H₀ L' { E with nx := N, ct := N, bk := E.nx } ((ss.set i (.d (.str x.1))).set j (csl K H₀ b x.2)) tb)
  (hd : ∀ ss, I prs.length ss -> Nx K G H₀ L E.nx ss) : Go K G H₀ L E ss (tFor (zh8 K te) (gTup K 2 (zs7 (zd7 i) (zs7 (zd7 j) gNil))) tb) := fun F H σ S =>
 a F H σ _ S fun p vs F1 H1 e1 hp hvl hnp => by
  refine ⟨p, rfl, ⟨vs, SqL.of (e1.fh _ _ hp)⟩, ?_⟩
  refine ⟨fun n m σ' H' => m = prs.length - n /\ n <= prs.length /\ At K G H₀ F1 (I n) σ' H', ⟨_, rfl, Nat.zero_le _, ss, F1, (S.ext2 e1).raise, h0⟩, ?_⟩
  rintro n m σ' H' ⟨rfl, hn, ss1, F2, S2, h2⟩
  have sq2 : SqL K H' p vs := SqL.of (S2.ext.fh _ _ (S2.fl _ _ hp))
  by_cases hlt : n < prs.length
  ·refine .inr ⟨⟨vs, vs[n]'(by omega), sq2, List.getElem?_eq_getElem _⟩, fun σ'' H'' => At K G H₀ F1 (I (n + 1)) σ'' H'', fun σ'' H'' h => ⟨prs.length - (n + 1), by omega, rfl, hlt, h⟩, fun x H'' y => ?_⟩
   obtain ⟨rfl, y⟩ := y
   have hx := y vs sq2
   obtain ⟨tp, b, ws, rfl, t0, b0, ht, hb, rw', rs⟩ := (hnp n _ x (List.getElem?_eq_getElem hlt) hx).mono S2.fl
   refine ⟨tp, _, rfl, SqT.of (S2.ext.fh _ _ ht), rfl, _, _, rfl, _, _, rfl, rfl, ?_⟩
   exact hs F1 n _ ss1 b (S.fl.trans e1.gf) (List.getElem?_eq_getElem hlt) h2 _ (fun ss h => zqy h) F2 _ _ ((S2.setD rs).setG0 ⟨b0, ws, hb, rw'⟩ (zpp K H₀ b _))
  ·have e : n = prs.length := by omega
   subst e
   exact .inl ⟨⟨vs, sq2, by omega⟩, hd ss1 h2 F2 H' σ' (S2.lower (S.fl.trans e1.gf))⟩
end
end L2
namespace L2
open PySem PySem.W PySem.Spec PyProof.Rows
noncomputable def ddA : List Addr -> List Addr
 | [] => []
 | a :: l => if a ∈ ddA l then ddA l else a :: ddA l
theorem zew : ∀ {l : List Addr} {a : Addr}, a ∈ ddA l ↔ a ∈ l
 | [], _ => Iff.rfl
 | b :: l, a => by
  rw [ddA]
  split
  ·rename_i h
   rw [zew, List.mem_cons]
   exact ⟨.inr, fun z => z.elim (fun e => by rw [e]; exact zew.mp h) id⟩
  ·rw [List.mem_cons, List.mem_cons, zew]
theorem zm5 : ∀ l : List Addr, (ddA l).Nodup
 | [] => List.nodup_nil
 | b :: l => by
  rw [ddA]
  split
  ·exact zm5 l
  ·rename_i h
   exact List.nodup_cons.mpr ⟨h, zm5 l⟩
noncomputable def WR (K : PySem.W.Frag) (p : Addr) (as : List Addr) (F H : Hp) (r : Rw) (v : V) : Prop := ∃ tp a ws, v = .ref tp /\ tp ∈ as /\ a ∈ as /\ a ≠ p /\ H tp = some (.tup [.str (T r.1), .str (T r.2.1), .ref a]) /\ H a = some (.lst ws) /\ Reps K F r.2.2 ws /\ Rep K F (.str r.1) (.str (T r.1)) /\ Rep K F (.str r.2.1) (.str (T r.2.1))
noncomputable def wW (K : PySem.W.Frag) (p : Addr) (as : List Addr) (rows : List Rw) : Hp -> Hp -> Prop := fun F H => p ∈ as /\ ∃ us, H p = some (.lst us) /\ us.length = rows.length /\ ∀ (k : Nat) r v, rows[k]? = some r -> us[k]? = some v -> WR K p as F H r v
noncomputable def wsl (K : PySem.W.Frag) (p : Addr) (as : List Addr) (rows : List Rw) : Sl := .g (.ref p) as (wW K p as rows)
theorem zso (K : PySem.W.Frag) (p : Addr) (as : List Addr) (rows : List Rw) : Stab as (wW K p as rows) := fun F1 H1 F2 H2 sf hh ⟨hp, us, h, hl, r⟩ => ⟨hp, us, by rw [hh p hp]; exact h, hl, fun k x v h1 h2 => by
 obtain ⟨tp, a, ws, e, m1, m2, hne, g1, g2, g3, g4, g5⟩ := r k x v h1 h2
 exact ⟨tp, a, ws, e, m1, m2, hne, by rw [hh tp m1]; exact g1, by rw [hh a m2]; exact g2, g3.mono sf, g4.mono sf, g5.mono sf⟩⟩
noncomputable def zW (p : Addr) (as : List Addr) : Hp -> Hp -> Prop := fun _ H => p ∈ as /\ ∃ us, H p = some (.lst us) /\ ∀ v ∈ us, ∃ tp a ws x y, v = .ref tp /\ tp ∈ as /\ a ∈ as /\ a ≠ p /\ H tp = some (.tup [x, y, .ref a]) /\ H a = some (.lst ws)
noncomputable def zsl (p : Addr) (as : List Addr) : Sl := .g (.ref p) as (zW p as)
theorem zsr (p : Addr) (as : List Addr) : Stab as (zW p as) := fun F1 H1 F2 H2 sf hh ⟨hp, us, h, r⟩ => ⟨hp, us, by rw [hh p hp]; exact h, fun v hv => by
 obtain ⟨tp, a, ws, x, y, e, m1, m2, hne, g1, g2⟩ := r v hv
 exact ⟨tp, a, ws, x, y, e, m1, m2, hne, by rw [hh tp m1]; exact g1, by rw [hh a m2]; exact g2⟩⟩
noncomputable def adR (F : Hp) : V -> List Addr
 | .ref tp => match F tp with
  | some (.tup [_, _, .ref a]) => [tp, a]
  | _ => []
 | _ => []
theorem zj4 {K : PySem.W.Frag} {F F' : Hp} {l : List Nat} {v : V} (r : Rep K F (.str l) v) : Rep K F' (.str l) v := by
 rw [r.of_str]; exact Rep.str r.asc
theorem zk8 {K : PySem.W.Frag} {F F' : Hp} : ∀ {cl : List (List Nat)} {ws : List V}, Reps K F (cl.map D.str) ws -> Reps K F' (cl.map D.str) ws
 | [], ws, r => by rw [List.map_nil, Reps] at r; subst r; exact Reps.nil
 | c :: cl, ws, r => by
  rw [List.map_cons, Reps] at r
  obtain ⟨v, vs, rfl, h1, h2⟩ := r
  exact Reps.cons (zj4 h1) (zk8 h2)
section
variable {K : PySem.W.Frag} {G H₀ L : Hp} {ss : List Sl} {i j : Nat} {p : Addr} {as : List Addr} {E : Ends} {D0 : XK} {t : TA} {te ta td : TE} {d d2 : D} {ds : List D} {pre : List D -> Prop} {res : List D -> List Rw} {rows : List Rw}
theorem Sat.getW {F H : Hp} {σ : St} {W : Hp -> Hp -> Prop} (S : Sat K G H₀ L F H σ ss) (hs : ss[i]? = some (.g (.ref p) as W)) : σ[i]? = some (some (.ref p)) /\ (∀ a ∈ as, H₀ a = none /\ F a = none /\ ∃ o, H a = some o) /\ W F H /\ Stab as W := by
 obtain ⟨v, e, ew, ha, hw, st⟩ := S.get hs (by intro z; cases z)
 cases ew
 exact ⟨e, ha, hw, st⟩
theorem zta (a : EvAF K G H₀ L ss t ds) (hp : pre ds) (hfl : ∀ r ∈ res ds, ∃ cl : List (List Nat), r.2.2 = cl.map D.str) (h : ∀ p as, Nx K G H₀ L E.nx (ss.set i (wsl K p as (res ds)))) : Go K G H₀ L E ss (tAsg (zjx (zk3 K pre res) [] D0 t) (zd7 i)) := fun F H σ S =>
 a F H σ _ S fun vs F1 H1 e1 r1 => ⟨F1, ds, e1.fh, by rw [List.append_nil]; exact r1, hp, fun p us F2 H2 e2 hp1 hp2 hp3 hn => by
  have ex : Ext F H F1 H2 := ⟨e1.gf, e1.fh.trans e2.hh, e1.hh.trans e2.hh, e1.no⟩
  have S2 := S.ext2 ex
  have hrow : ∀ v ∈ us, ∃ tp a, v = .ref tp /\ adR F2 v = [tp, a] /\ H1 tp = none /\ H1 a = none /\ (∃ o, H2 tp = some o) /\ ∃ o, H2 a = some o := fun v hv => by
   obtain ⟨k, hk⟩ := List.mem_iff_getElem?.mp hv
   have hkl : k < (res ds).length := by rw [<- hn.1]; exact (List.getElem?_eq_some_iff.mp hk).1
   obtain ⟨tp, a, ws, rfl, t0, a0, ht, ha, _⟩ := hn.2 k _ v (List.getElem?_eq_getElem hkl) hk
   exact ⟨tp, a, rfl, by simp only [adR, ht], t0, a0, ⟨_, e2.fh _ _ ht⟩, ⟨_, e2.fh _ _ ha⟩⟩
  have hall : ∀ b ∈ ddA (p :: us.flatMap (adR F2)), H1 b = none /\ ∃ o, H2 b = some o := fun b hb => by
   rcases List.mem_cons.mp (zew.mp hb) with rfl | hb
   ·exact ⟨hp1, _, hp3⟩
   ·obtain ⟨v, hv, hb⟩ := List.mem_flatMap.mp hb
    obtain ⟨tp, a, _, e, t0, a0, tl, al⟩ := hrow v hv
    rw [e] at hb
    rcases List.mem_cons.mp hb with rfl | hb
    ·exact ⟨t0, tl⟩
    ·rw [List.mem_singleton.mp hb]; exact ⟨a0, al⟩
  refine h p (ddA (p :: us.flatMap (adR F2))) F1 H2 _ (S2.put S2.ext S2.fl (by simp) (fun j hj => zbr (Ne.symm hj)) (fun hi => ?_) (zm5 _) (fun j s' hj hs q hq => ?_) fun j s' hj hs => S2.ok j s' hs)
  ·rw [zbh (by rw [S.len]; exact hi)]
   refine ⟨rfl, fun b hb => ⟨S.ext.hh.free (e1.hh.free (hall b hb).1), e1.fh.free (hall b hb).1, (hall b hb).2⟩, ⟨zew.mpr List.mem_cons_self, us, hp3, hn.1, fun k r v h1 h2 => ?_⟩, zso K p _ _⟩
   obtain ⟨tp, a, ws, rfl, t0, a0, ht, ha, g1, g2, g3⟩ := hn.2 k r v h1 h2
   have hm : ∀ b ∈ [tp, a], b ∈ ddA (p :: us.flatMap (adR F2)) := fun b hb => zew.mpr (List.mem_cons_of_mem _ (List.mem_flatMap.mpr ⟨.ref tp, List.mem_of_getElem? h2, by simp only [adR, ht]; exact hb⟩))
   obtain ⟨cl, hcl⟩ := hfl r (List.mem_of_getElem? h1)
   have g1' : Reps K F1 r.2.2 ws := by
    rw [hcl] at g1 ⊢
    exact zk8 g1
   have hap : a ≠ p := fun z => by rw [z, hp2] at ha; cases ha
   exact ⟨tp, a, ws, rfl, hm tp (by simp), hm a (by simp), hap, e2.fh _ _ ht, e2.fh _ _ ha, g1', zj4 g2, zj4 g3⟩
  ·exact fun hin => ((S.ext2 e1).ok j s' hs).live hin (hall q hq).1⟩
theorem Sat.repW {F H : Hp} {σ : St} (S : Sat K G H₀ L F H σ ss) (hs : ss[i]? = some (wsl K p as rows)) : Same F (frzS F H as) /\ Same (frzS F H as) H /\ Rep K (frzS F H as) (.lst (rows.map rwD)) (.ref p) := by
 obtain ⟨e, ha, ⟨hp, us, hu, hl, hr⟩, st⟩ := S.getW hs
 have s1 : Same F (frzS F H as) := fun b o e => by rw [zdx fun z => by rw [(ha b z).2.1] at e; cases e]; exact e
 refine ⟨s1, fun b o e => ?_, Rep.lst (SqL.of (by rw [zda hp]; exact hu)) ?_⟩
 ·by_cases hb : b ∈ as
  ·rw [zda hb] at e; exact e
  ·rw [zdx hb] at e; exact S.ext.fh b o e
 ·have key : ∀ (rs : List Rw) (vs : List V), vs.length = rs.length -> (∀ (k : Nat) r v, rs[k]? = some r -> vs[k]? = some v -> WR K p as F H r v) -> Reps K (frzS F H as) (rs.map rwD) vs := by
   intro rs
   induction rs with
   | nil =>
    intro vs h _
    cases vs with
    | nil => exact Reps.nil
    | cons => simp at h
   | cons r rs ih =>
    intro vs h hk
    cases vs with
    | nil => simp at h
    | cons v vs =>
     obtain ⟨tp, a, ws, rfl, m1, m2, hne, g1, g2, g3, g4, g5⟩ := hk 0 r v rfl rfl
     exact Reps.cons (Rep.tup (SqT.of (by rw [zda m1]; exact g1)) (Reps.cons (g4.mono s1) (Reps.cons (g5.mono s1) (Reps.cons (Rep.lst (SqL.of (by rw [zda m2]; exact g2)) (g3.mono s1)) Reps.nil)))) (ih vs (by simpa using h) fun k r' v' h1 h2 => hk (k + 1) r' v' (by simpa using h1) (by simpa using h2))
  exact key rows us hl hr
theorem zn7 {resB : List D -> D} {b : Bool} (hs : ss[i]? = some (wsl K p as rows)) (hj : ss[j]? = some (.d d2)) (hp : pre [.lst (rows.map rwD), d2]) (hb : resB [.lst (rows.map rwD), d2] = .bl b) :
  Ev K G H₀ L ss (zjx (SpD K pre resB) [] D0 (za9 (tVar i) (za9 (tVar j) tNil))) (.bl b) := fun F H σ Q S q => by
 obtain ⟨e, _⟩ := S.getW hs
 obtain ⟨s1, s2, rp⟩ := S.repW hs
 obtain ⟨v2, e2, r2⟩ := S.getD hj
 refine ⟨_, e, _, e2, frzS F H as, _, s2, Reps.cons rp (Reps.cons (r2.mono s1) Reps.nil), hp, fun v F' H' ex r => ?_⟩
 rw [hb] at r
 rw [r.of_bl]
 exact q _ F H' ⟨Same.refl _, S.ext.fh.trans ex.hh, ex.hh, fun _ _ _ => rfl⟩ Rep.bl
theorem zjg (hs : ss[i]? = some (wsl K p as rows)) (hij : i ≠ j) (hj : j < ss.length) (h : Nx K G H₀ L E.nx ((ss.set i (zsl p as)).set j .un)) :
  Go K G H₀ L E ss (tFor (zh8 K (tVar i)) (zd7 j) (zl6 (tBM0 K "list" zmu (tOp (rIxT K) (tVar j) (tC (.int 2)))))) := fun F H σ S => by
 obtain ⟨e, ha, ⟨hpm, us, hu, hl, hr⟩, st⟩ := S.getW hs
 have hil : i < ss.length := (List.getElem?_eq_some_iff.mp hs).1
 have hget : σ.getD i none = some (.ref p) := by rw [List.getD_eq_getElem?_getD, e]; rfl
 -- what is known while it runs
 let W : Hp -> Hp -> Prop := fun _ H => p ∈ as /\ H p = some (.lst us) /\ ∀ v ∈ us, ∃ tp a ws x y, v = .ref tp /\ tp ∈ as /\ a ∈ as /\ a ≠ p /\ H tp = some (.tup [x, y, .ref a]) /\ H a = some (.lst ws)
 have Wst : Stab as W := fun F1 H1 F2 H2 sf hh ⟨hp, h, r⟩ => ⟨hp, by rw [hh p hp]; exact h, fun v hv => by
  obtain ⟨tp, a, ws, x, y, e, m1, m2, hne, g1, g2⟩ := r v hv
  exact ⟨tp, a, ws, x, y, e, m1, m2, hne, by rw [hh tp m1]; exact g1, by rw [hh a m2]; exact g2⟩⟩
 have W0 : W F H := ⟨hpm, hu, fun v hv => by
  obtain ⟨k, hk⟩ := List.mem_iff_getElem?.mp hv
  have hkl : k < rows.length := by rw [<- hl]; exact (List.getElem?_eq_some_iff.mp hk).1
  obtain ⟨tp, a, ws, rfl, m1, m2, hne, g1, g2, _⟩ := hr k _ v (List.getElem?_eq_getElem hkl) hk
  exact ⟨tp, a, ws, _, _, rfl, m1, m2, hne, g1, g2⟩⟩
 let Z : List Sl := (ss.set i (.g (.ref p) as W)).set j .un
 have hnd : as.Nodup := S.nd i _ hs
 have S0 : Sat K G H₀ L F H σ Z := (S.put (i:=i) (s:=.g (.ref p) as W) S.ext S.fl rfl (fun _ _ => rfl) (fun _ => by rw [hget]; exact ⟨rfl, ha, W0, Wst⟩) hnd (fun n s' hn h' q hq => S.ne i n _ s' (Ne.symm hn) hs h' q hq) fun n s' hn h' => S.ok n s' h').forget j
 have hZi : Z[i]? = some (.g (.ref p) as W) := by
  show ((ss.set i _).set j Sl.un)[i]? = _
  rw [List.getElem?_set_ne (Ne.symm hij), List.getElem?_set_self hil]
 have hZj : Z[j]? = some .un := by
  show ((ss.set i _).set j Sl.un)[j]? = _
  rw [List.getElem?_set_self (by rw [List.length_set]; exact hj)]
 refine ⟨.ref p, e, p, rfl, ⟨_, SqL.of hu⟩, ?_⟩
 refine ⟨fun k m σ' H' => m = us.length - k /\ k <= us.length /\ ∃ F, Sat K G H₀ L F H' σ' Z, ⟨_, rfl, Nat.zero_le _, F, S0⟩, ?_⟩
 rintro k m σ' H' ⟨rfl, hk, F2, S2⟩
 obtain ⟨e2, ha2, ⟨_, hu2, hr2⟩, _⟩ := S2.getW hZi
 have sq2 : SqL K H' p us := SqL.of hu2
 by_cases hlt : k < us.length
 ·refine .inr ⟨⟨_, us[k], sq2, List.getElem?_eq_getElem hlt⟩, fun σ'' H'' => ∃ F, Sat K G H₀ L F H'' σ'' Z, fun σ'' H'' h => ⟨us.length - (k + 1), by omega, rfl, hlt, h⟩, fun x H'' y => ?_⟩
  obtain ⟨rfl, y⟩ := y
  have hx := y _ sq2
  rw [List.getElem?_eq_getElem hlt] at hx
  cases hx
  obtain ⟨tp, a, ws, x, y, eq, m1, m2, hne, g1, g2⟩ := hr2 _ (List.getElem_mem hlt)
  rw [eq]
  have S3 : Sat K G H₀ L F2 H'' (σ'.set j (some (.ref tp))) Z := by
   have := S2.put (i:=j) (s:=.un) (σ':=σ'.set j (some (.ref tp))) S2.ext S2.fl (by simp) (fun n hn => zbr (Ne.symm hn)) (fun _ => trivial) (by simp [Sl.ads]) (fun _ _ _ _ p hp => by simp [Sl.ads] at hp) fun n s' _ h => S2.ok n s' h
   rw [zhw hZj] at this; exact this
  have hvar : (σ'.set j (some (.ref tp)))[j]? = some (some (.ref tp)) := by
   have hl2 : j < σ'.length := by
    rw [S2.len]
    show j < ((ss.set i _).set j Sl.un).length
    rw [List.length_set, List.length_set]; exact hj
   rw [List.getElem?_set_self hl2]
  refine ⟨_, hvar, tp, [x, y, .ref a], 2, .ref a, rfl, rfl, SqT.of g1, rfl, .inl ⟨rfl, _, SqL.of g2⟩, a, ws, rfl, rfl, g2, F2, ?_⟩
  have htpa : tp ≠ a := fun z => by rw [z, g2] at g1; cases g1
  have hget3 : (σ'.set j (some (.ref tp))).getD i none = some (.ref p) := by
   have := (S3.getW hZi).1
   rw [List.getD_eq_getElem?_getD, this]; rfl
  have hW' : W F2 (upd H'' a (.lst [])) := ⟨hpm, by rw [zaj (Ne.symm hne)]; exact hu2, fun v hv => by
   obtain ⟨tp', a', ws', x', y', e', n1, n2, hne', k1, k2⟩ := hr2 v hv
   have h1 : tp' ≠ a := fun z => by rw [z, g2] at k1; cases k1
   by_cases h2 : a' = a
   ·exact ⟨tp', a', [], x', y', e', n1, n2, hne', by rw [zaj h1]; exact k1, by rw [h2]; exact zah⟩
   ·exact ⟨tp', a', ws', x', y', e', n1, n2, hne', by rw [zaj h1]; exact k1, by rw [zaj h2]; exact k2⟩⟩
  have := S3.put (i:=i) (s:=.g (.ref p) as W) (F':=F2) (H':=upd H'' a (.lst [])) (σ':=σ'.set j (some (.ref tp))) (S3.ext.write (ha2 a m2).2.1 (ha2 a m2).1) S3.fl rfl (fun _ _ => rfl) (fun _ => by
   rw [hget3]
   refine ⟨rfl, fun b hb => ⟨(ha2 b hb).1, (ha2 b hb).2.1, ?_⟩, hW', Wst⟩
   by_cases hba : b = a
   ·rw [hba]; exact ⟨_, zah⟩
   ·rw [zaj hba]; exact (ha2 b hb).2.2) hnd (fun n s' hn h' q hq => S3.ne i n _ s' (Ne.symm hn) hZi h' q hq) fun n s' hn h' => (S3.ok n s' h').updNe (S3.ne i n _ s' (Ne.symm hn) hZi h' a m2)
  rw [zhw hZi] at this
  exact this
 ·have ek : k = us.length := by omega
  subst ek
  refine .inl ⟨⟨_, sq2, Nat.le_refl _⟩, h F2 H' σ' ?_⟩
  have hget2 : σ'.getD i none = some (.ref p) := by rw [List.getD_eq_getElem?_getD, e2]; rfl
  have := S2.put (i:=i) (s:=zsl p as) S2.ext S2.fl rfl (fun _ _ => rfl) (fun _ => by rw [hget2]; exact ⟨rfl, ha2, ⟨hpm, us, hu2, hr2⟩, zsr p as⟩) hnd (fun n s' hn h' q hq => S2.ne i n _ s' (Ne.symm hn) hZi h' q hq) fun n s' hn h' => S2.ok n s' h'
  have eZ : Z.set i (zsl p as) = (ss.set i (zsl p as)).set j .un := by
   show ((ss.set i _).set j Sl.un).set i _ = _
   rw [List.set_comm _ _ (Ne.symm hij), List.set_set]
  rw [eZ] at this
  exact this
theorem zou (hs : ss[i]? = some (zsl p as)) (h : Nx K G H₀ L E.nx (ss.set i .un)) : Go K G H₀ L E ss (zl6 (tBM0 K "list" zmu (tVar i))) := fun F H σ S => by
 obtain ⟨e, ha, ⟨hpm, us, hu, _⟩, st⟩ := S.getW hs
 refine ⟨.ref p, e, .inl ⟨rfl, _, SqL.of hu⟩, p, us, rfl, rfl, hu, h F _ σ ?_⟩
 exact S.put (S.ext.write (ha p hpm).2.1 (ha p hpm).1) S.fl rfl (fun _ _ => rfl) (fun _ => trivial) (by simp [Sl.ads]) (fun _ _ _ _ q hq => by simp [Sl.ads] at hq) fun n s' hn h' => (S.ok n s' h').updNe (S.ne i n _ s' (Ne.symm hn) hs h' p hpm)
theorem zs4 {tl : TE} {g : TG} {tb : TS} {α : Type} (enc : α -> D) (xs : List α) (I : Nat -> List Sl -> Prop) (a : Ev K G H₀ L ss tl (.tup (xs.map enc))) (h0 : I 0 ss)
  (hs : ∀ L' k x ss, Same L L' -> xs[k]? = some x -> I k ss -> ∃ ss', Tg K G H₀ L' g (enc x) ss ss' /\ ∀ N, (∀ ss, I (k + 1) ss -> Nx K G H₀ L' N ss) -> Go K G H₀ L' { E with nx := N, ct := N, bk := E.nx } ss' tb)
  (hd : ∀ ss, I xs.length ss -> Nx K G H₀ L E.nx ss) : Go K G H₀ L E ss (tFor (iTup K tl) g tb) := fun F H σ S =>
 a F H σ _ S fun v F1 H1 e1 r1 => by
  obtain ⟨p, vs, rfl, sq, rs⟩ := r1.of_tup
  refine ⟨p, rfl, ⟨vs, SqT.same e1.fh sq⟩, ?_⟩
  refine ⟨fun i m σ' H' => m = xs.length - i /\ i <= xs.length /\ At K G H₀ F1 (I i) σ' H', ⟨_, rfl, Nat.zero_le _, ss, F1, (S.ext2 e1).raise, h0⟩, ?_⟩
  rintro i m σ' H' ⟨rfl, hi, ss1, F2, S2, h2⟩
  have rp : Rep K F2 (.tup (xs.map enc)) (.ref p) := r1.mono S2.fl
  obtain ⟨q, ws, eq, sq2, rs2⟩ := rp.of_tup
  cases eq
  have sq2 := SqT.same S2.ext.fh sq2
  have hlen : ws.length = xs.length := by rw [<- rs2.length, List.length_map]
  by_cases hlt : i < xs.length
  ·refine .inr ⟨⟨ws, ws[i]'(by omega), sq2, List.getElem?_eq_getElem _⟩, fun σ'' H'' => At K G H₀ F1 (I (i + 1)) σ'' H'', fun σ'' H'' h => ⟨xs.length - (i + 1), by omega, rfl, hlt, h⟩, fun x H'' y => ?_⟩
   obtain ⟨rfl, y⟩ := y
   have hx := y ws sq2
   obtain ⟨dx, hdx, rx⟩ := rs2.get hx
   rw [List.getElem?_map, List.getElem?_eq_getElem hlt] at hdx
   cases hdx
   obtain ⟨ss', tg, go⟩ := hs F1 i _ ss1 (S.fl.trans e1.gf) (List.getElem?_eq_getElem hlt) h2
   exact tg F2 _ σ' x _ S2 rx fun σ3 S3 => go _ (fun ss h => zqy h) F2 _ σ3 S3
  ·have e : i = xs.length := by omega
   subst e
   exact .inl ⟨⟨ws, sq2, by omega⟩, hd ss1 h2 F2 H' σ' (S2.lower (S.fl.trans e1.gf))⟩
end
end L2
namespace L2
theorem zfh {α : Type} {P : List α -> Prop} (h0 : P []) (hs : ∀ xs x, P xs -> P (xs ++ [x])) (xs : List α) : P xs := by
 have : ∀ ys : List α, P ys.reverse := by
  intro ys
  induction ys with
  | nil => exact h0
  | cons y ys ih => rw [List.reverse_cons]; exact hs _ _ ih
 have := this xs.reverse
 rwa [List.reverse_reverse] at this
section
variable {α β γ : Type} [DecidableEq α] [DecidableEq β] [DecidableEq γ] {f : α -> β} {g : α -> γ} {xs : List α} {x : α}
noncomputable def zf4 (f : α -> β) (acc : List α) (x : α) : List α := if (acc.any fun y => decide (f y = f x)) = true then acc else acc ++ [x]
noncomputable def zdj (f : α -> β) (xs : List α) : List α := xs.foldl (zf4 f) []
theorem zcw : zdj f (xs ++ [x]) = zf4 f (zdj f xs) x := by unfold zdj; rw [List.foldl_append]; rfl
theorem zem (v : β) : (∃ y ∈ zdj f xs, f y = v) ↔ ∃ y ∈ xs, f y = v := by
 induction xs using zfh with
 | h0 => simp [zdj]
 | hs xs x ih =>
  rw [zcw]
  unfold zf4
  split
  ·rename_i h
   rw [List.any_eq_true] at h
   obtain ⟨y, hy, e⟩ := h
   have e := of_decide_eq_true e
   rw [ih]
   constructor
   ·rintro ⟨z, hz, ez⟩; exact ⟨z, List.mem_append_left _ hz, ez⟩
   ·rintro ⟨z, hz, ez⟩
    rcases List.mem_append.mp hz with hz | hz
    ·exact ⟨z, hz, ez⟩
    ·rw [List.mem_singleton.mp hz] at ez
     exact ih.mp ⟨y, hy, e.trans ez⟩
  ·constructor
   ·rintro ⟨z, hz, ez⟩
    rcases List.mem_append.mp hz with hz | hz
    ·obtain ⟨w, hw, ew⟩ := ih.mp ⟨z, hz, ez⟩
     exact ⟨w, List.mem_append_left _ hw, ew⟩
    ·exact ⟨z, List.mem_append_right _ hz, ez⟩
   ·rintro ⟨z, hz, ez⟩
    rcases List.mem_append.mp hz with hz | hz
    ·obtain ⟨w, hw, ew⟩ := ih.mpr ⟨z, hz, ez⟩
     exact ⟨w, List.mem_append_left _ hw, ew⟩
    ·exact ⟨z, List.mem_append_right _ hz, ez⟩
theorem ziu {y : α} : y ∈ zdj f xs -> y ∈ xs := by
 induction xs using zfh with
 | h0 => exact fun h => h
 | hs xs x ih =>
  rw [zcw]
  unfold zf4
  split
  ·exact fun h => List.mem_append_left _ (ih h)
  ·intro h
   rcases List.mem_append.mp h with h | h
   ·exact List.mem_append_left _ (ih h)
   ·exact List.mem_append_right _ h
theorem zep : ((zdj f xs).map f).Nodup := by
 induction xs using zfh with
 | h0 => exact List.nodup_nil
 | hs xs x ih =>
  rw [zcw]
  unfold zf4
  split
  ·exact ih
  ·rename_i h
   rw [List.map_append]
   refine List.nodup_append.mpr ⟨ih, by simp, fun a ha b hb e => h ?_⟩
   obtain ⟨y, hy, ey⟩ := List.mem_map.mp ha
   have hb : b = f x := by simpa using hb
   rw [List.any_eq_true]
   exact ⟨y, hy, decide_eq_true (ey.trans (e.trans hb))⟩
noncomputable def zng (f : α -> β) (xs : List α) : List (List α) := (zdj f xs).map fun h => xs.filter fun t => decide (f t = f h)
theorem zlw : (zng f xs).length <= xs.length := by
 unfold zng
 rw [List.length_map]
 induction xs using zfh with
 | h0 => exact Nat.le_refl _
 | hs xs x ih =>
  rw [zcw]
  unfold zf4
  split <;> simp <;> omega
variable {enc : α -> D} {encB : β -> D}
noncomputable def grpD (enc : α -> D) (encB : β -> D) (f : α -> β) (xs : List α) : List (D × List D) := (zdj f xs).map fun h => (encB (f h), (xs.filter fun t => decide (f t = f h)).map enc)
theorem zm4 (hi : ∀ a b, encB a = encB b -> a = b) {F : α -> List D} {d : D} : ∀ {hs : List α}, (hs.map f).Nodup -> (∃ h ∈ hs, f h = f x) -> appD (hs.map fun h => (encB (f h), F h)) (encB (f x)) d = hs.map fun h => (encB (f h), if f h = f x then F h ++ [d] else F h)
 | [], _, h => by obtain ⟨_, h, _⟩ := h; cases h
 | y :: ys, hn, h => by
  rw [List.map_cons, List.map_cons, appD]
  rw [List.map_cons, List.nodup_cons] at hn
  by_cases e : f y = f x
  ·rw [if_pos (by show encB (f y) = encB (f x); rw [e]), if_pos e]
   congr 1
   refine List.map_congr_left fun z hz => ?_
   have : f z ≠ f x := fun w => hn.1 (by rw [e, <- w]; exact List.mem_map_of_mem hz)
   rw [if_neg this]
  ·rw [if_neg (fun z => e (hi _ _ z)), if_neg e]
   congr 1
   refine zm4 hi hn.2 ?_
   obtain ⟨z, hz, ez⟩ := h
   rcases List.mem_cons.mp hz with rfl | hz
   ·exact absurd ez e
   ·exact ⟨z, hz, ez⟩
theorem zky (hi : ∀ a b, encB a = encB b -> a = b) {F : α -> List D} {d : D} : ∀ {hs : List α}, (∀ h ∈ hs, f h ≠ f x) -> appD (hs.map fun h => (encB (f h), F h)) (encB (f x)) d = (hs.map fun h => (encB (f h), F h)) ++ [(encB (f x), [d])]
 | [], _ => rfl
 | y :: ys, h => by
  rw [List.map_cons, appD, if_neg (fun z => h y List.mem_cons_self (hi _ _ z)), zky hi fun z hz => h z (List.mem_cons_of_mem _ hz)]
  rfl
theorem zqu (hi : ∀ a b, encB a = encB b -> a = b) : appD (grpD enc encB f xs) (encB (f x)) (enc x) = grpD enc encB f (xs ++ [x]) := by
 unfold grpD
 rw [zcw]
 unfold zf4
 have ef : ∀ h, ((xs ++ [x]).filter fun t => decide (f t = f h)).map enc = if f h = f x then (xs.filter fun t => decide (f t = f h)).map enc ++ [enc x] else (xs.filter fun t => decide (f t = f h)).map enc := fun h => by
  rw [List.filter_append]
  by_cases e : f h = f x
  ·rw [if_pos e, List.filter_cons_of_pos (by simp [e]), List.filter_nil, List.map_append]; rfl
  ·rw [if_neg e, List.filter_cons_of_neg (by simp; exact fun z => e z.symm), List.filter_nil, List.append_nil]
 split
 ·rename_i h
  rw [List.any_eq_true] at h
  obtain ⟨y, hy, e⟩ := h
  rw [zm4 hi zep ⟨y, hy, of_decide_eq_true e⟩]
  exact List.map_congr_left fun h _ => by rw [ef]
 ·rename_i h
  have hno : ∀ y ∈ zdj f xs, f y ≠ f x := fun y hy e => h (by rw [List.any_eq_true]; exact ⟨y, hy, decide_eq_true e⟩)
  rw [zky hi hno, List.map_append]
  congr 1
  ·exact List.map_congr_left fun h hh => by rw [ef, if_neg (hno h hh)]
  ·rw [List.map_singleton, ef, if_pos rfl]
   have : (xs.filter fun t => decide (f t = f x)) = [] := by
    rw [List.filter_eq_nil_iff]
    intro t ht e
    obtain ⟨z, hz, ez⟩ := (zem (f:=f) (xs:=xs) (f x)).mpr ⟨t, ht, of_decide_eq_true e⟩
    exact hno z hz ez
   rw [this]; rfl
theorem zpk : (grpD enc encB f xs).length <= xs.length := by
 have := zlw (f:=f) (xs:=xs)
 unfold zng at this
 unfold grpD
 simpa using this
theorem zm0 {q : D × List D} (h : q ∈ grpD enc encB f xs) : q.2.length <= xs.length := by
 unfold grpD at h
 obtain ⟨y, _, rfl⟩ := List.mem_map.mp h
 rw [List.length_map]
 exact List.length_filter_le ..
end
end L2
namespace L2
open PySem PySem.W PyProof.Rows
theorem hu66 {A : Around} {k : Nat} (hr : Room k A) : A.units + 66 < cLine := by have := hr.un; lia
end L2
namespace L2
open PySem PySem.W PySem.Spec PyProof.Rows
end L2
namespace L2
open PySem PySem.Spec PyProof.Rows
end L2
namespace L2
open PySem PySem.W PySem.Spec PyProof.Rows
theorem zsh {l : List Nat} (h : ∀ c ∈ l, c < 128) : Txt.upper (T l) = T (l.map up1) := by
 rw [upper_ascii (by simpa [T] using h)]
 simp [T]
theorem zun : ∀ c, c < 128 -> up1 c < 128 := by decide +kernel
section
variable {K : PySem.W.Frag} {G H₀ L : Hp} {ss : List Sl} {ta : TE} {l : List Nat}
theorem zoo (a : EvB K G H₀ L ss ta (.str l)) (hl : l.length <= 100000) : Ev K G H₀ L ss (tBM0 K "str" zq9 ta) (.str (l.map up1)) := fun F H σ Q S q =>
 a F H σ _ S fun v F1 H1 e1 r1 => by
  rw [r1.of_str]
  have e := zsh r1.asc
  refine ⟨rfl, T l, rfl, rfl, ?_, ?_⟩
  ·rw [e, zgi, List.length_map]
   unfold Builtin.Str.tooLong
   exact decide_eq_false (by rw [sizeLine_eq]; lia)
  rw [e]
  exact q _ _ _ e1 (Rep.str fun z hz => by
   obtain ⟨c, hc, rfl⟩ := List.mem_map.mp hz
   exact zun c (r1.asc c hc))
end
end L2
set_option maxHeartbeats 8000000
namespace My
open PySem L2 PyProof.Rows
noncomputable def top (i : Nat) : Stmt := PySem.Challenge.pw_folk_k47_what_a_group_tells.main.body.getD i (.Pass ⟨0, 0, 0, 0⟩)
noncomputable abbrev zbe : Stmt := top 2
theorem zj5 : FnScope ["book", "card", "field"] ["book", "card", "field"] (zad zbe) := ⟨rfl, rfl, rfl, by decide +kernel, rfl, by decide +kernel, by decide +kernel⟩
noncomputable abbrev zap : Stmt := top 4
theorem zbp : FnScope ["book", "group", "field", "holders", "card", "text"] ["book", "group", "field"] (zad zap) := ⟨rfl, rfl, rfl, by decide +kernel, rfl, by decide +kernel, by decide +kernel⟩
noncomputable abbrev za3 : Stmt := top 5
theorem zbt : FnScope ["book", "group", "told", "field", "text", "cards"] ["book", "group"] (zad za3) := ⟨rfl, rfl, rfl, by decide +kernel, rfl, by decide +kernel, by decide +kernel⟩
noncomputable abbrev zau : Stmt := top 7
theorem zgh : FnScope ["_law_script", "_law_k"] ["_law_script", "_law_k"] (zad zau) := ⟨rfl, rfl, rfl, by decide +kernel, rfl, by decide +kernel, by decide +kernel⟩
noncomputable abbrev za0 : Stmt := top 8
theorem zbs : FnScope ["_law_cell", "_law_many", "_law_found", "_law_number", "_law_k"] ["_law_cell", "_law_many"] (zad za0) := ⟨rfl, rfl, rfl, by decide +kernel, rfl, by decide +kernel, by decide +kernel⟩
noncomputable abbrev za5 : Stmt := top 9
theorem za4 : FnScope ["_law_cell", "_law_many", "_law_letters", "_law_draws", "_law_size", "_law_at", "_law_base", "_law_cards_here", "_law_k", "_law_sign"] ["_law_cell", "_law_many"] (zad za5) := ⟨rfl, rfl, rfl, by decide +kernel, rfl, by decide +kernel, by decide +kernel⟩
noncomputable abbrev zbd : Stmt := top 10
theorem zd9 : FnScope ["_law_cell", "_law_signs", "_law_text_here"] ["_law_cell"] (zad zbd) := ⟨rfl, rfl, rfl, by decide +kernel, rfl, by decide +kernel, by decide +kernel⟩
noncomputable abbrev zbm : Stmt := top 11
theorem za8 : FnScope ["_law_cells", "_law_cards_here", "_law_cell", "_law_facts", "_law_one", "_law_draws", "_law_card", "_law_other", "_law_text_here", "_law_fact"] ["_law_cells", "_law_cards_here", "_law_cell"] (zad zbm) := ⟨rfl, rfl, rfl, by decide +kernel, rfl, by decide +kernel, by decide +kernel⟩
noncomputable abbrev zbc : Stmt := top 12
theorem zcj : FnScope ["_law_book_here", "_law_group", "_law_rows", "_law_field", "_law_facts", "_law_text_here"] ["_law_book_here", "_law_group"] (zad zbc) := ⟨rfl, rfl, rfl, by decide +kernel, rfl, by decide +kernel, by decide +kernel⟩
noncomputable abbrev zbj : Stmt := top 13
theorem zfw : FnScope ["_law_found", "_law_due_here", "_law_row"] ["_law_found", "_law_due_here"] (zad zbj) := ⟨rfl, rfl, rfl, by decide +kernel, rfl, by decide +kernel, by decide +kernel⟩
noncomputable abbrev zfd : Stmt := top 14
theorem zch : FnScope ["_law_script", "_law_first", "_law_cell", "_law_cards_here", "_law_book_here", "_law_some", "_law_start", "_law_group", "_law_due_here", "_law_handed", "_law_again", "_law_found", "_law_row"] ["_law_script"] (zad zfd) := ⟨rfl, rfl, rfl, by decide +kernel, rfl, by decide +kernel, by decide +kernel⟩
structure Tx (K : PySem.W.Frag) (mg : Str -> Option Value) (k_FIELDS : Addr) (f_texts_of f_cards_by_text f_texts_told f_law_cell_at f_law_stream f_law_cards f_law_text f_law_book f_law_due f_law_good f_law : Addr) (d_texts_of d_cards_by_text d_texts_told d_law_cell_at d_law_stream d_law_cards d_law_text d_law_book d_law_due d_law_good d_law : FuncData) : Prop where
 M_FIELDS : mg "FIELDS" = some (.ref k_FIELDS)
 K_FIELDS : TupK K k_FIELDS [[110, 97, 109, 101], [102, 111, 114, 109, 101, 114], [119, 97, 121], [100, 97, 121], [109, 97, 114, 107]]
 F_texts_of : Fun K "texts_of" "texts_of" zbe f_texts_of d_texts_of
 B_texts_of : zd0 K d_texts_of ["book", "card", "field"] []
 M_texts_of : mg "texts_of" = some (.ref f_texts_of)
 F_cards_by_text : Fun K "cards_by_text" "cards_by_text" zap f_cards_by_text d_cards_by_text
 B_cards_by_text : zd0 K d_cards_by_text ["book", "group", "field"] []
 M_cards_by_text : mg "cards_by_text" = some (.ref f_cards_by_text)
 F_texts_told : Fun K "texts_told" "texts_told" za3 f_texts_told d_texts_told
 B_texts_told : zd0 K d_texts_told ["book", "group"] []
 M_texts_told : mg "texts_told" = some (.ref f_texts_told)
 F_law_cell_at : Fun K "_law_cell_at" "_law_cell_at" zau f_law_cell_at d_law_cell_at
 B_law_cell_at : zd0 K d_law_cell_at ["_law_script", "_law_k"] []
 M_law_cell_at : mg "_law_cell_at" = some (.ref f_law_cell_at)
 F_law_stream : Fun K "_law_stream" "_law_stream" za0 f_law_stream d_law_stream
 B_law_stream : zd0 K d_law_stream ["_law_cell", "_law_many"] []
 M_law_stream : mg "_law_stream" = some (.ref f_law_stream)
 F_law_cards : Fun K "_law_cards" "_law_cards" za5 f_law_cards d_law_cards
 B_law_cards : zd0 K d_law_cards ["_law_cell", "_law_many"] []
 M_law_cards : mg "_law_cards" = some (.ref f_law_cards)
 F_law_text : Fun K "_law_text" "_law_text" zbd f_law_text d_law_text
 B_law_text : zd0 K d_law_text ["_law_cell"] []
 M_law_text : mg "_law_text" = some (.ref f_law_text)
 F_law_book : Fun K "_law_book" "_law_book" zbm f_law_book d_law_book
 B_law_book : zd0 K d_law_book ["_law_cells", "_law_cards_here", "_law_cell"] []
 M_law_book : mg "_law_book" = some (.ref f_law_book)
 F_law_due : Fun K "_law_due" "_law_due" zbc f_law_due d_law_due
 B_law_due : zd0 K d_law_due ["_law_book_here", "_law_group"] []
 M_law_due : mg "_law_due" = some (.ref f_law_due)
 F_law_good : Fun K "_law_good" "_law_good" zbj f_law_good d_law_good
 B_law_good : zd0 K d_law_good ["_law_found", "_law_due_here"] []
 M_law_good : mg "_law_good" = some (.ref f_law_good)
 F_law : Fun K "law" "law" zfd f_law d_law
 B_law : zd0 K d_law ["_law_script"] []
 M_law : mg "law" = some (.ref f_law)
 z_isinstance : mg "isinstance" = none
 z_len : mg "len" = none
 z_list : mg "list" = none
 z_max : mg "max" = none
 z_min : mg "min" = none
 z_range : mg "range" = none
 z_reversed : mg "reversed" = none
 z_set : mg "set" = none
 z_sorted : mg "sorted" = none
 z_tuple : mg "tuple" = none
section
variable {P : Program} {w : World} {K : PySem.W.Frag} {mg : Str -> Option Value} {base : Heap} {k_FIELDS : Addr} {f_texts_of f_cards_by_text f_texts_told f_law_cell_at f_law_stream f_law_cards f_law_text f_law_book f_law_due f_law_good f_law : Addr} {d_texts_of d_cards_by_text d_texts_told d_law_cell_at d_law_stream d_law_cards d_law_text d_law_book d_law_due d_law_good d_law : FuncData}
noncomputable def zjj (ds : List D) : Prop := ∃ (ns : List Int) (k : Int), ds = [.lst (ns.map .int), .int k] /\ 0 <= k
noncomputable def zdi : List D -> D
 | [.lst xs, .int k] => xs.getD k.toNat (.int 0)
 | _ => .non
theorem zgg (Z : Tx K mg k_FIELDS f_texts_of f_cards_by_text f_texts_told f_law_cell_at f_law_stream f_law_cards f_law_text f_law_book f_law_due f_law_good f_law d_texts_of d_cards_by_text d_texts_told d_law_cell_at d_law_stream d_law_cards d_law_text d_law_book d_law_due d_law_good d_law) : FnOk P w K mg base CX0 1 f_law_cell_at d_law_cell_at ["_law_script", "_law_k"] (SpD K zjj zdi) := by
 refine Z.F_law_cell_at.ok zgh (fun vs H Q E h => zde (n:=2) (by rintro ds ⟨ns, k, rfl, _⟩; rfl) h) (fun cdv A outer s H vs Q E hr h => ⟨_, (zae (zh2 (zbq zuz (pv 1) (za1 zb0 (by rfl) Z.z_len boot_len (zaa (pv 0) zai)) (zc8 _)) (zao (zb3 (zbn (show IxR _ (rIxL K) from zbb) (pv 0) (pv 1) (fun _ _ => rfl)))) zdm)
   (zao (zb3 zaf))), ?_⟩)
 refine zke h (by rw [zde (n:=2) (by rintro ds ⟨ns, k, rfl, _⟩; rfl) h]; decide) fun G ds hp rt => ?_
 obtain ⟨ns, k, rfl, hk⟩ := hp
 have ll : (ns.map D.int).length = ns.length := by simp
 refine zam (zic (zba (zs5 (g:=fun i j => decide (i < j)) (zab rfl).b (zgz (zab rfl).l).b)) (fun hb => ?_) (fun hb => ?_))
 ·simp only [decide_eq_true_eq] at hb
  have hk2 : k.toNat < ns.length := by omega
  refine zgn (zbw (d:=.int (ns.getD k.toNat 0)) (zab rfl).l (zab rfl).b ?_) ?_
  ·have := ze0 (xs:=ns.map D.int) (j:=k.toNat) (v:=D.int (ns.getD k.toNat 0)) (by rw [List.getElem?_map, List.getD_eq_getElem?_getD]; simp [hk2])
   rw [show ((k.toNat : Nat) : Int) = k by omega] at this
   exact this
  ·have e : zdi [D.lst (ns.map D.int), D.int k] = .int (ns.getD k.toNat 0) := by
    simp [zdi, List.getD_eq_getElem?_getD, List.getElem?_map, hk2]
   rw [e] at rt; exact rt
 ·simp only [decide_eq_false_iff_not] at hb
  have e : zdi [D.lst (ns.map D.int), D.int k] = .int 0 := by
   simp [zdi, List.getD_eq_getElem?_getD, List.getElem?_map, show ns[k.toNat]? = none from List.getElem?_eq_none (by omega)]
  rw [e] at rt
  refine zdb ?_
  ((try dsimp only); refine zaz ?_)
  exact zgn zag rt
noncomputable def M : Int := 4294967311
noncomputable def num (c : Int) : Nat -> Int
 | 0 => c % M + 48271
 | k + 1 => (num c k * num c k + 69621 * num c k + k) % M
theorem zr4 (c : Int) : ∀ k, 0 <= num c k /\ num c k < M + 48271
 | 0 => ⟨by have := Int.emod_nonneg c (show M ≠ 0 by decide); show 0 <= c % M + 48271; omega, by have := Int.emod_lt_of_pos c (show 0 < M by decide); show c % M + 48271 < M + 48271; omega⟩
 | k + 1 => ⟨Int.emod_nonneg _ (by decide), by have := Int.emod_lt_of_pos (num c k * num c k + 69621 * num c k + k) (show 0 < M by decide); show _ % M < M + 48271; omega⟩
noncomputable def zce (c : Int) (m : Nat) : List D := (List.range m).map fun i => .int (num c (i + 2))
noncomputable def zef (ds : List D) : Prop := ∃ c m : Int, ds = [.int c, .int m] /\ 0 <= m /\ m <= 1000
noncomputable def zcr : List D -> List D
 | [.int c, .int m] => zce c m.toNat
 | _ => []
theorem zc1 (Z : Tx K mg k_FIELDS f_texts_of f_cards_by_text f_texts_told f_law_cell_at f_law_stream f_law_cards f_law_text f_law_book f_law_due f_law_good f_law d_texts_of d_cards_by_text d_texts_told d_law_cell_at d_law_stream d_law_cards d_law_text d_law_book d_law_due d_law_good d_law) : FnOk P w K mg base CX0 1 f_law_stream d_law_stream ["_law_cell", "_law_many"] (SpO K zef zcr) := by
 refine Z.F_law_stream.ok zbs (fun vs H Q E h => zev (n:=2) (by rintro ds ⟨c, m, rfl, _⟩; rfl) h) (fun cdv A outer s H vs Q E hr h => ⟨_, (zae (zaw (i:=2) zbs.nd rfl (Or.inl rfl) (zcp zai))
   (zae (zaw (i:=3) zbs.nd rfl (Or.inl rfl) (za6 zc5 (za6 zbv (pv 0) zaf) zaf))
   (zae (zck PassesOwn.never rfl (zed (by rfl) Z.z_range (zaa (za6 zc5 (pv 1) zaf) zai)) (zax (i:=4) zbs.nd rfl (Or.inl rfl)) (zae (zaw (i:=3) zbs.nd rfl (Or.inl rfl) (za6 zbv (za6 zc5 (za6 zc5 (za6 zoz (pv 3) (pv 3)) (za6 zoz zaf (pv 3))) (pv 4)) zaf))
   (zao (zdc (zgj F.plainAttrs_list F.slot_list_append F.type_list_append zcc (pv 2) (zaa (pv 3) zai))))))
   (zao (zb3 (zc2 zfz (pv 2) (zc0 zaf) zgb)))))), ?_⟩)
 refine znb h (by rw [zev (n:=2) (by rintro ds ⟨c, m, rfl, _⟩; rfl) h]; decide) fun G ds hp rt => ?_
 obtain ⟨c, m, rfl, hm0, hm1⟩ := hp
 refine zam (zcz (zcd zan (by decide)) fun p => ?_)
 ((try dsimp only); refine zaz ?_)
 refine zam (zbo (zc7 (zb1 (zab rfl).b zag.b (by decide)).b zag.b) ?_)
 ((try dsimp only); refine zaz ?_)
 refine zam (zhc (n:=m + 1) (fun k ss => ∃ v4, ss = [.d (.int c), .d (.int m), .o p ((List.range k).map fun i => .int (num c (i + 1))), .d (.int (num c k)), v4]) (zfj (zc7 (zab rfl).b zag.b).b zhl) ⟨by omega, by omega⟩ ⟨.un, rfl⟩ ?_ ?_ (fun _ _ _ h => h))
 ·rintro k ss hk ⟨v4, rfl⟩ N hN
  have hr := zr4 c k
  rw [show M = 4294967311 from rfl] at hr
  refine zam (zbo (zb1 (zc7 (zc7 (zm6 (zab rfl).b (zab rfl).b ?_).b (zm6 zag.b (zab rfl).b ?_).b).b (zab rfl).b).b zag.b (by decide)) ?_)
  ·exact .inl ⟨by omega, by omega⟩
  ·exact .inl ⟨by decide, by decide⟩
  ·((try dsimp only); refine zaz ?_)
   refine zeh rfl (zab rfl) ?_ ?_
   ·rw [List.length_map, List.length_range, sizeLine_eq]; omega
   ·refine hN _ ⟨.d (.int k), ?_⟩
    rw [List.range_succ, List.map_append]
    rfl
 ·rintro ss ⟨v4, rfl⟩
  ((try dsimp only); refine zaz ?_)
  refine zj9 (zf1 (zea rfl) (zb5 zag.b) zh6) ?_
  have e : cutD ((List.range (m + 1).toNat).map fun i => D.int (num c (i + 1))) (some 1) none = zcr [.int c, .int m] := by
   rw [zfx _ (by decide), show (m + 1).toNat = m.toNat + 1 by omega]
   show List.drop 1 _ = zce c m.toNat
   rw [List.range_succ_eq_map, List.map_cons, List.drop_succ_cons, List.drop_zero, List.map_map]
   rfl
  rw [e]; exact rt
noncomputable def ze1 : List Nat := ((List.range 95).map (· + 32)).filter (· != 37)
theorem zif : ze1.length = 94 := by decide +kernel
theorem zpg : ∀ c ∈ ze1, c < 128 := by decide +kernel
noncomputable def zbz (d : Int) : Int := 1 + d % 7
theorem ze7 (d : Int) : 1 <= zbz d /\ zbz d <= 40 := by
 unfold zbz
 omega
noncomputable def textL (d : Int) : List Nat :=
 let t := stripL [32].contains ((List.range (zbz d).toNat).map fun i => ze1.getD (num d (i + 2) % 94).toNat 0)
 if t = [] then [126] else t
noncomputable def zo4 (ds : List D) : Prop := ∃ d : Int, ds = [.int d]
noncomputable def zjq : List D -> D
 | [.int d] => .str (textL d)
 | _ => .non
theorem zpu (x : Int) : atI ze1 (x % 94) = some (ze1.getD (x % 94).toNat 0) := by
 have h1 := Int.emod_nonneg x (show (94 : Int) ≠ 0 by decide)
 have h2 := Int.emod_lt_of_pos x (show (0 : Int) < 94 by decide)
 have hl := zif
 have := ze0 (xs:=ze1) (j:=(x % 94).toNat) (v:=ze1.getD (x % 94).toNat 0) (by rw [List.getD_eq_getElem?_getD, List.getElem?_eq_getElem (by omega)]; rfl)
 rw [show (((x % 94).toNat : Nat) : Int) = x % 94 by omega] at this
 exact this
theorem zka (Z : Tx K mg k_FIELDS f_texts_of f_cards_by_text f_texts_told f_law_cell_at f_law_stream f_law_cards f_law_text f_law_book f_law_due f_law_good f_law d_texts_of d_cards_by_text d_texts_told d_law_cell_at d_law_stream d_law_cards d_law_text d_law_book d_law_due d_law_good d_law) : FnOk P w K mg base CX0 2 f_law_text d_law_text ["_law_cell"] (SpD K zo4 zjq) := by
 have G_law_stream := zc1 (P:=P) (w:=w) (base:=base) Z
 refine Z.F_law_text.ok zd9 (fun vs H Q E h => zde (n:=1) (by rintro ds ⟨c, rfl⟩; rfl) h) (fun cdv A outer s H vs Q E hr h => ⟨_, (zae (zaw (i:=1) zd9.nd rfl (Or.inr rfl) zbu)
   (zae (zaw (i:=2) zd9.nd rfl (Or.inl rfl) (zgj F.plainAttrs_str F.slot_str_strip F.type_str_strip zpa (zgj F.plainAttrs_str F.slot_str_join F.type_str_join zm3 zbu (zaa (zju rfl (LcOk.of (Nx:=(["_law_cell", "_law_signs", "_law_text_here"] : List Str)) (sc:=zad zbd) (N':=(["_law_draw", "_law_signs"] : List Str)) (nt:=1) (cs:=[1]) rfl rfl (by decide +kernel)) (zbf (zbx G_law_stream (hr.mono (by decide)) (by rfl) Z.M_law_stream Z.F_law_stream.kp Z.B_law_stream .nil zes (zaa (pv 0) (zaa (za6 zc5 zaf (za6 zbv (pv 0) zaf)) zai)))) (fun _ _ _ _ => (zax (i:=0) (show List.Nodup (["_law_draw", "_law_signs"] : List Str) by decide +kernel) rfl (Or.inl rfl))) (fun _ _ _ _ => zfn) (fun _ _ _ _ => (zbn zna (pv 1) (za6 zbv (pv 0) zaf) (fun _ _ => rfl)))) zai)) (zaa zbu zai)))
   (zae (zh2 (zbq zih (pv 2) zbu (zc8 _)) (zao (zb3 zbu)) zdm)
   (zao (zb3 (pv 2)))))), ?_⟩)
 refine zke h (by rw [zde (n:=1) (by rintro ds ⟨c, rfl⟩; rfl) h]; decide) fun G ds hp rt => ?_
 obtain ⟨d, rfl⟩ := hp
 have hsz := ze7 d
 refine zam (zbo (zc6 (l:=ze1) (by decide +kernel) zpg) ?_)
 ((try dsimp only); refine zaz ?_)
 refine zam ?_
 refine zbo (d:=.str (stripL [32].contains ((List.range (zbz d).toNat).map fun i => ze1.getD (num d (i + 2) % 94).toNat 0))) ?_ ?f
 refine zpl (y:=[32]) ?_ ?d ?e
 refine Ev.b ?_
 rw [<- zk6]
 refine zlf (xs:=List.range (zbz d).toNat) (z:=[]) (g:=fun i => [ze1.getD (num d (i + 2) % 94).toNat 0]) ?a (EvO.l ?b) ?c
 case a => exact (zc6 (by decide +kernel) (by decide)).b
 case b =>
  refine zhv (List.range (zbz d).toNat) (fun i => .int (num d (i + 2))) _ (EvO.l ?b1) (zc4 (by decide)) (by decide) ?b2 ?b3
  case b1 => exact zeg (pre:=zef) (res:=zcr) (zac (zab rfl) (zac (zc7 zag.b (zb1 (zab rfl).b zag.b (by decide)).b) zan)) ⟨d, zbz d, rfl, by omega, by omega⟩
  case b2 => rw [List.length_range, sizeLine_eq]; omega
  case b3 =>
   intro i hi
   refine ⟨_, zbg, ?_⟩
   exact zot (zab rfl).b (zb1 (zab rfl).b zag.b (by decide)).b (by rw [zif, sizeLine_eq]; decide) (zpu _)
 case c =>
  simp only [List.map_map, List.length_range, List.length_nil, Nat.mul_zero, Nat.add_zero]
  rw [show (List.length ∘ fun i => [ze1.getD (num d (i + 2) % 94).toNat 0]) = fun _ => 1 from rfl, List.map_const', List.sum_replicate_nat, List.length_range]; omega
 case d => exact (zc6 (by decide +kernel) (by decide)).b
 case e => rw [List.length_map, List.length_range, sizeLine_eq]; omega
 case f =>
  ((try dsimp only); refine zaz ?_)
  have e : zjq [.int d] = .str (textL d) := rfl
  rw [e] at rt
  unfold textL at rt
  generalize stripL [32].contains ((List.range (zbz d).toNat).map fun i => ze1.getD (num d (i + 2) % 94).toNat 0) = tx at rt ⊢
  refine zam (zic (zba (ziz (zab rfl).b (zc6 (l:=[]) (by decide +kernel) (by decide)).b)) (fun hb => ?_) (fun hb => ?_))
  ·simp only [decide_eq_true_eq] at hb
   rw [if_pos hb] at rt
   exact zgn (zc6 (by decide +kernel) (by decide)) rt
  ·simp only [decide_eq_false_iff_not] at hb
   rw [if_neg hb] at rt
   refine zdb ?_
   ((try dsimp only); refine zaz ?_)
   exact zgn (zab rfl) rt
theorem small {n : Nat} (h : n <= 1000) : n <= sizeLine := by rw [sizeLine_eq]; omega
theorem zj0 {α : Type} (xs : List α) (z : α) (x : Int) {n : Int} (hn : (xs.length : Int) = n) (h0 : 0 < n) : atI xs (x % n) = some (xs.getD (x % n).toNat z) := by
 have h1 := Int.emod_nonneg x (show n ≠ 0 by omega)
 have h2 := Int.emod_lt_of_pos x h0
 have := ze0 (xs:=xs) (j:=(x % n).toNat) (v:=xs.getD (x % n).toNat z) (by rw [List.getD_eq_getElem?_getD, List.getElem?_eq_getElem (by omega)]; rfl)
 rw [show (((x % n).toNat : Nat) : Int) = x % n by omega] at this
 exact this
theorem zcl (c : Int) (m : Nat) (i : Nat) (h : i < m) : atI (zce c m) (i : Int) = some (.int (num c (i + 2))) :=
 ze0 (by unfold zce; rw [List.getElem?_map, List.getElem?_range h]; rfl)
noncomputable def cardAt (cs : List (List Nat)) (x : Int) : List Nat := cs.getD (x % cs.length).toNat []
theorem zqr (cs : List (List Nat)) (x : Int) (h : cs ≠ []) : atI (cs.map D.str) (x % cs.length) = some (.str (cardAt cs x)) := by
 have hl : 0 < cs.length := List.length_pos_iff.mpr h
 have h1 := Int.emod_nonneg x (show (cs.length : Int) ≠ 0 by omega)
 have h2 := Int.emod_lt_of_pos x (show (0 : Int) < cs.length by omega)
 have := ze0 (xs:=cs.map D.str) (j:=(x % cs.length).toNat) (v:=.str (cardAt cs x)) (by unfold cardAt; rw [List.getElem?_map, List.getD_eq_getElem?_getD, List.getElem?_eq_getElem (by omega)]; rfl)
 rw [show (((x % cs.length).toNat : Nat) : Int) = x % cs.length by omega] at this
 exact this
noncomputable def lets : List Nat := ("abcdefghijklmnopqrstuvwxyz" : Str).cps.toList
theorem zfq : lets.length = 26 := by decide +kernel
theorem zs3 : ∀ c ∈ lets, c < 128 := by decide +kernel
noncomputable def zd2 (x : Int) : Nat := lets.getD (x % 26).toNat 0
theorem zme (x : Int) : atI lets (x % 26) = some (zd2 x) := zj0 lets 0 x (by rw [zfq]; rfl) (by decide)
noncomputable def zey (c : Int) : Int := 1 + num c 2 % 12
theorem zee (c : Int) : 1 <= zey c /\ zey c <= 12 := by unfold zey; omega
noncomputable def cat_ (c : Int) : Int := num c 3 % zey c
theorem zr7 (c : Int) : 0 <= cat_ c /\ cat_ c < zey c := by
 have := zee c
 exact ⟨Int.emod_nonneg _ (by omega), Int.emod_lt_of_pos _ (by omega)⟩
noncomputable def zgk (c : Int) : List Nat := (List.range (zey c).toNat).map fun i => zd2 (num c (i + 4))
noncomputable def zjk (c : Int) (k : Nat) : List Nat := cutL (zgk c) none (some (cat_ c)) ++ [zd2 (num c ((2 + cat_ c).toNat + 2) + 7 * k)] ++ cutL (zgk c) (some (cat_ c + 1)) none
noncomputable def cardsL (c many : Int) : List (List Nat) := (List.range many.toNat).map (zjk c)
noncomputable def zlm (ds : List D) : Prop := ∃ c m : Int, ds = [.int c, .int m] /\ 0 <= m /\ m <= 100
noncomputable def zhr : List D -> List D
 | [.int c, .int m] => (cardsL c m).map .str
 | _ => []
theorem zl4 (c : Int) (m : Nat) (i : Int) (h0 : 0 <= i) (h : i < m) : atI (zce c m) i = some (.int (num c (i.toNat + 2))) := by
 have := zcl c m i.toNat (by omega)
 rw [show ((i.toNat : Nat) : Int) = i by omega] at this
 exact this
theorem zlz (c : Int) : cutD (zce c 14) (some 2) (some (2 + zey c)) = (List.range (zey c).toNat).map fun i => .int (num c (i + 4)) := by
 have h := zee c
 rw [zkq _ (by decide) (by omega)]
 unfold zce
 refine List.ext_getElem? fun i => ?_
 rw [List.getElem?_take]
 by_cases hi : i < (zey c).toNat
 ·rw [if_pos (by omega), List.getElem?_drop, List.getElem?_map, List.getElem?_map, List.getElem?_range (by omega), List.getElem?_range hi]
  show some (D.int (num c (2 + i + 2))) = some (D.int (num c (i + 4)))
  rw [show 2 + i + 2 = i + 4 by omega]
 ·rw [if_neg (by omega), List.getElem?_eq_none (by simp; omega)]
theorem zmp (c : Int) : (zgk c).length <= 12 := by
 have := zee c
 unfold zgk; rw [List.length_map, List.length_range]; omega
theorem zjb (l : List Nat) (lo hi : Option Int) : (cutL l lo hi).length <= l.length := by unfold cutL; rw [List.length_take, List.length_drop]; omega
theorem zi3 (Z : Tx K mg k_FIELDS f_texts_of f_cards_by_text f_texts_told f_law_cell_at f_law_stream f_law_cards f_law_text f_law_book f_law_due f_law_good f_law d_texts_of d_cards_by_text d_texts_told d_law_cell_at d_law_stream d_law_cards d_law_text d_law_book d_law_due d_law_good d_law) : FnOk P w K mg base CX0 2 f_law_cards d_law_cards ["_law_cell", "_law_many"] (SpO K zlm zhr) := by
 have G_law_stream := zc1 (P:=P) (w:=w) (base:=base) Z
 refine Z.F_law_cards.ok za4 (fun vs H Q E h => zev (n:=2) (by rintro ds ⟨c, m, rfl, _⟩; rfl) h) (fun cdv A outer s H vs Q E hr h => ⟨_, (zae (zaw (i:=2) za4.nd rfl (Or.inr rfl) zbu)
   (zae (zaw (i:=3) za4.nd rfl (Or.inl rfl) (zbx G_law_stream (hr.mono (by decide)) (by rfl) Z.M_law_stream Z.F_law_stream.kp Z.B_law_stream .nil zes (zaa (pv 0) (zaa zaf zai))))
   (zae (zaw (i:=4) za4.nd rfl (Or.inl rfl) (za6 zc5 zaf (za6 zbv (zbn (show IxR _ (rIxL K) from zbb) (pv 3) zaf (fun _ _ => rfl)) zaf)))
   (zae (zaw (i:=5) za4.nd rfl (Or.inl rfl) (za6 zbv (zbn (show IxR _ (rIxL K) from zbb) (pv 3) zaf (fun _ _ => rfl)) (pv 4)))
   (zae (zaw (i:=6) za4.nd rfl (Or.inl rfl) (zgj F.plainAttrs_str F.slot_str_join F.type_str_join zm3 zbu (zaa (zju rfl (LcOk.of (Nx:=(["_law_cell", "_law_many", "_law_letters", "_law_draws", "_law_size", "_law_at", "_law_base", "_law_cards_here", "_law_k", "_law_sign"] : List Str)) (sc:=zad za5) (N':=(["_law_draw", "_law_letters"] : List Str)) (nt:=1) (cs:=[2]) rfl rfl (by decide +kernel)) (zbf (zc2 zfz (pv 3) (zc0 zaf) (zc0 (za6 zc5 zaf (pv 4))))) (fun _ _ _ _ => (zax (i:=0) (show List.Nodup (["_law_draw", "_law_letters"] : List Str) by decide +kernel) rfl (Or.inl rfl))) (fun _ _ _ _ => zfn) (fun _ _ _ _ => (zbn zna (pv 1) (za6 zbv (pv 0) zaf) (fun _ _ => rfl)))) zai)))
   (zae (zaw (i:=7) za4.nd rfl (Or.inl rfl) (zcp zai))
   (zae (zck PassesOwn.never rfl (zed (by rfl) Z.z_range (zaa (pv 1) zai)) (zax (i:=8) za4.nd rfl (Or.inl rfl)) (zae (zaw (i:=9) za4.nd rfl (Or.inl rfl) (zbn zna (pv 2) (za6 zbv (za6 zc5 (zbn (show IxR _ (rIxL K) from zbb) (pv 3) (za6 zc5 zaf (pv 5)) (fun _ _ => rfl)) (za6 zoz zaf (pv 8))) zaf) (fun _ _ => rfl)))
   (zao (zdc (zgj F.plainAttrs_list F.slot_list_append F.type_list_append zcc (pv 7) (zaa (za6 zgq (za6 zgq (zc2 zq2 (pv 6) zgb (zc0 (pv 5))) (pv 9)) (zc2 zq2 (pv 6) (zc0 (za6 zc5 (pv 5) zaf)) zgb)) zai))))))
   (zao (zb3 (pv 7)))))))))), ?_⟩)
 refine znb h (by rw [zev (n:=2) (by rintro ds ⟨c, m, rfl, _⟩; rfl) h]; decide) fun G ds hp rt => ?_
 obtain ⟨c, m, rfl, hm0, hm1⟩ := hp
 have hz := zee c
 have ha := zr7 c
 have hbl := zmp c
 have h12 : (12 : Nat) <= sizeLine := small (by decide)
 refine zam (zbo (zfc zs3) ?_)
 ((try dsimp only); refine zaz ?_)
 refine zam (zcz (zeg (pre:=zef) (res:=zcr) (zac (zab rfl) (zac zag zan)) ⟨c, 14, rfl, by decide, by decide⟩) fun p => ?_)
 ((try dsimp only); refine zaz ?_)
 refine zam (zbo (d:=.int (zey c)) (zc7 zag.b (zb1 (zbw (zea rfl) zag.b (zcl c 14 0 (by decide))).b zag.b (by decide)).b) ?_)
 ((try dsimp only); refine zaz ?_)
 refine zam (zbo (d:=.int (cat_ c)) (zb1 (zbw (zea rfl) zag.b (zcl c 14 1 (by decide))).b (zab rfl).b (by omega)) ?_)
 ((try dsimp only); refine zaz ?_)
 refine zam (zbo (d:=.str (zgk c)) ?_ ?_)
 ·unfold zgk
  rw [<- zk6]
  refine zlf (xs:=List.range (zey c).toNat) (z:=[]) (g:=fun i => [zd2 (num c (i + 4))]) ?a (EvO.l ?b) ?c
  case a => exact (zc6 (by decide +kernel) (by decide)).b
  case b =>
   refine zhv (List.range (zey c).toNat) (fun i => .int (num c (i + 4))) _ ?b1 (zc4 (by decide)) (by decide) ?b2 ?b3
   case b1 =>
    rw [<- zlz]
    exact EvO.l (zf1 (zea rfl) (zb5 zag.b) (zb5 (zc7 zag.b (zab rfl).b).b))
   case b2 => rw [List.length_range, sizeLine_eq]; omega
   case b3 =>
    intro i hi
    refine ⟨_, zbg, ?_⟩
    exact zot (zab rfl).b (zb1 (zab rfl).b zag.b (by decide)).b (small (by rw [zfq]; decide)) (zme _)
  case c =>
   simp only [List.map_map, List.length_range, List.length_nil, Nat.mul_zero, Nat.add_zero]
   rw [show (List.length ∘ fun i => [zd2 (num c (i + 4))]) = fun _ => 1 from rfl, List.map_const', List.sum_replicate_nat, List.length_range]; omega
 ((try dsimp only); refine zaz ?_)
 refine zam (zcz (zcd zan (small (by decide))) fun q => ?_)
 ((try dsimp only); refine zaz ?_)
 refine zam (zhc (n:=m) (fun k ss => ∃ v8 v9, ss = [.d (.int c), .d (.int m), .d (.str lets), .o p (zce c 14), .d (.int (zey c)), .d (.int (cat_ c)), .d (.str (zgk c)), .o q ((List.range k).map fun k => .str (zjk c k)), v8, v9]) (zfj (zab rfl).b zhl) ⟨by omega, by omega⟩ ⟨.un, .un, rfl⟩ ?_ ?_ (fun _ _ _ h => h))
 ·rintro k ss hk ⟨v8, v9, rfl⟩ N hN
  refine zam (zbo (d:=.str [zd2 (num c ((2 + cat_ c).toNat + 2) + 7 * k)]) (zot (zab rfl).b (zb1 (zc7 (zbw (zea rfl) (zc7 zag.b (zab rfl).b).b (zl4 c 14 _ (by omega) (by omega))).b (zm6 zag.b (zab rfl).b (.inl ⟨by decide, by decide⟩)).b).b zag.b (by decide)).b (small (by rw [zfq]; decide)) (zme _)) ?_)
  ((try dsimp only); refine zaz ?_)
  refine zeh (d:=.str (zjk c k)) rfl (znr (znr (zrd (zab rfl).b zh6 (zb5 (zab rfl).b) (by omega)).b (zab rfl).b ?_).b (zrd (zab rfl).b (zb5 (zc7 (zab rfl).b zag.b).b) zh6 (by omega)).b ?_) ?_ ?_
  ·have := zjb (zgk c) none (some (cat_ c))
   exact small (by simp only [List.length_cons, List.length_nil]; omega)
  ·have := zjb (zgk c) none (some (cat_ c))
   have := zjb (zgk c) (some (cat_ c + 1)) none
   exact small (by simp only [List.length_append, List.length_cons, List.length_nil]; omega)
  ·rw [List.length_map, List.length_range, sizeLine_eq]; omega
  ·refine hN _ ⟨.d (.int k), .d (.str [zd2 (num c ((2 + cat_ c).toNat + 2) + 7 * k)]), ?_⟩
   rw [List.range_succ, List.map_append]
   rfl
 ·rintro ss ⟨v8, v9, rfl⟩
  ((try dsimp only); refine zaz ?_)
  refine zn2 rfl ?_
  have e : ((List.range m.toNat).map fun k => D.str (zjk c k)) = zhr [.int c, .int m] := by
   show _ = (cardsL c m).map D.str
   unfold cardsL
   rw [List.map_map]; rfl
  rw [e]; exact rt
noncomputable def S (x : Str) : D := .str x.cps.toList
noncomputable def zdp : List D := [S "same", S "apart"]
noncomputable def zcv : List D := [S "name", S "former", S "way", S "day", S "mark"]
noncomputable abbrev Fct := List Nat × List Nat × List Nat
noncomputable def encF (f : Fct) : D := .tup [.str f.1, .str f.2.1, .str f.2.2]
noncomputable def unF : D -> Fct
 | .tup [.str a, .str b, .str c] => (a, b, c)
 | _ => ([], [], [])
theorem zg3 (fs : List Fct) : (fs.map encF).map unF = fs := by
 rw [List.map_map, show (unF ∘ encF) = id from rfl, List.map_id]
theorem zqo (x : Int) : ∃ l, zdp.getD (x % 2).toNat .non = .str l := by
 have h1 := Int.emod_nonneg x (show (2 : Int) ≠ 0 by decide)
 have h2 := Int.emod_lt_of_pos x (show (0 : Int) < 2 by decide)
 have : (x % 2).toNat = 0 \/ (x % 2).toNat = 1 := by omega
 rcases this with e | e <;> rw [e] <;> exact ⟨_, rfl⟩
theorem znu (x : Int) : ∃ l, zcv.getD (x % 5).toNat .non = .str l := by
 have h1 := Int.emod_nonneg x (show (5 : Int) ≠ 0 by decide)
 have h2 := Int.emod_lt_of_pos x (show (0 : Int) < 5 by decide)
 have : (x % 5).toNat = 0 \/ (x % 5).toNat = 1 \/ (x % 5).toNat = 2 \/ (x % 5).toNat = 3 \/ (x % 5).toNat = 4 := by omega
 rcases this with e | e | e | e | e <;> rw [e] <;> exact ⟨_, rfl⟩
theorem zkz {f g : Fct} (h : encF f = encF g) : f = g := congrArg unF h
theorem ztg {fs : List Fct} {f : Fct} : encF f ∈ fs.map encF ↔ f ∈ fs :=
 ⟨fun h => by obtain ⟨g, hg, e⟩ := List.mem_map.mp h; rw [<- zkz e]; exact hg, fun h => List.mem_map_of_mem h⟩
theorem zr5 {fs : List Fct} (h : fs.Nodup) : (fs.map encF).Nodup := by
 unfold List.Nodup at *
 rw [List.pairwise_map]
 exact h.imp fun a e => a (zkz e)
theorem alF (fs : List Fct) : zco (fs.map encF) := .inr (.inr ⟨.s, [.s, .s], fun d hd => by
 obtain ⟨f, _, rfl⟩ := List.mem_map.mp hd; exact ⟨_, rfl, rfl⟩⟩)
theorem nbF (f : Fct) : (encF f).nb = true := rfl
theorem dpF (f : Fct) : (encF f).dep <= 1 := by show (D.deps [.str f.1, .str f.2.1, .str f.2.2]) + 1 <= 1; simp [D.deps, D.dep]
theorem zt9 {ds : List D} {fs : List Fct} (h : ∀ d ∈ ds, d ∈ fs.map encF) : (ds.map unF).map encF = ds := by
 rw [List.map_map]
 conv => rhs; rw [<- List.map_id ds]
 exact List.map_congr_left fun d hd => by obtain ⟨f, _, rfl⟩ := List.mem_map.mp (h d hd); rfl
noncomputable def Bk (b : List Fct) : Prop := b.Nodup /\ zb9 (b.map encF) = b.map encF
theorem zly (ds : List D) (h : zco ds) : zb9 (zb9 ds) = zb9 ds := zd6 h (zbl ds)
noncomputable def mkB (fs : List Fct) : List Fct := (zb9 (fs.map encF)).map unF
theorem zjf (fs : List Fct) : (mkB fs).map encF = zb9 (fs.map encF) := zt9 fun d hd => (zbl _).mem_iff.mp hd
theorem zsg (fs : List Fct) : (mkB fs).length = fs.length := by unfold mkB; rw [List.length_map, (zbl _).length_eq, List.length_map]
theorem zuk {fs : List Fct} (h : fs.Nodup) : Bk (mkB fs) := by
 refine ⟨?_, ?_⟩
 ·have : ((mkB fs).map encF).Nodup := by rw [zjf]; exact (zbl _).nodup_iff.mpr (zr5 h)
  unfold List.Nodup at *
  rw [List.pairwise_map] at this
  exact this.imp fun a e => a (congrArg encF e)
 ·rw [zjf, zly _ (alF fs)]
theorem zph (fs : List Fct) : zb9 (fs.map encF) = (mkB fs).map encF := (zjf fs).symm
noncomputable def zpy (K : PySem.W.Frag) : Sp := fun vs H Q _ => ∃ (a : Addr) (ns : List Int), vs = [.ref a] /\ SqL K H a (ns.map V.int) /\ ns.length <= 63 /\ ∀ H', Q (.bl true) H'
theorem zib {K : PySem.W.Frag} {H : Hp} : ∀ ns : List Int, Reps K H (ns.map D.int) (ns.map V.int)
 | [] => Reps.nil
 | n :: ns => Reps.cons Rep.int (zib ns)
noncomputable def dedF (fs : List Fct) : List Fct := (ded (fs.map encF)).map unF
noncomputable def bkD (b : List Fct) : D := .lst (b.map encF)
theorem ztu (x : List Fct) : (bkD x).nb = true := by show (D.lst (x.map encF)).nb = true; rw [D.nb_lst]; exact D.nbs_map nbF x
theorem zr8 (x : List Fct) : (bkD x).dep <= 2 := by show (D.lst (x.map encF)).dep <= 2; rw [D.dep_lst]; have := D.deps_map dpF x; omega
noncomputable def unS : D -> List Nat
 | .str l => l
 | _ => []
theorem zer (cs : List (List Nat)) : (cs.map D.str).map unS = cs := by
 rw [List.map_map]; exact List.map_id'' (fun _ => rfl) cs
noncomputable def grD (gr : List (List Nat)) : D := .lst (gr.map .str)
theorem zkh {α : Type} (g : α -> List Nat) (xs : List α) : zco (xs.map fun x => D.str (g x)) := .inl fun d hd => by obtain ⟨x, _, rfl⟩ := List.mem_map.mp hd; rfl
theorem al_s (xs : List (List Nat)) : zco (xs.map D.str) := zkh id xs
noncomputable def zat (ts : List (List Nat)) : List (List Nat) := (zb9 (ts.map D.str)).map unS
theorem zcs (ts : List (List Nat)) : (zat ts).map D.str = zb9 (ts.map D.str) := by
 unfold zat
 rw [List.map_map]
 conv => rhs; rw [<- List.map_id (zb9 (ts.map D.str))]
 exact List.map_congr_left fun d hd => by
  obtain ⟨t, _, rfl⟩ := List.mem_map.mp ((zbl _).mem_iff.mp hd); rfl
theorem zdw (ts : List (List Nat)) : (zat ts).Perm ts := by
 have := (zbl (ts.map D.str)).map unS
 rwa [zer] at this
theorem zcm {ts : List (List Nat)} {t : List Nat} : t ∈ zat ts ↔ t ∈ ts := (zdw ts).mem_iff
theorem zdl (ts : List (List Nat)) : (zat ts).length = ts.length := (zdw ts).length_eq
theorem zjw {ts us : List (List Nat)} (h : ts.Perm us) : zat ts = zat us := by
 unfold zat
 rw [zd6 (al_s us) (h.map D.str)]
theorem zpe {ts us : List (List Nat)} (h1 : ts.Nodup) (h2 : us.Nodup) (h : ∀ t, t ∈ ts ↔ t ∈ us) : zat ts = zat us := zjw ((List.perm_ext_iff_of_nodup h1 h2).mpr h)
noncomputable def txL (fs : List Fct) (a b : List Nat) : List (List Nat) := zat ((fs.filter fun f => decide (f.1 = a) && decide (f.2.1 = b)).map fun f => f.2.2)
noncomputable def ztj (ds : List D) : Prop := ∃ (fs : List Fct) (a b : List Nat), ds = [bkD fs, .str a, .str b] /\ fs.length <= 60
noncomputable def zry : List D -> List D
 | [.lst xs, .str a, .str b] => (txL (xs.map unF) a b).map D.str
 | _ => []
theorem zin (fs : List Fct) (a b : List Nat) : zry [bkD fs, .str a, .str b] = (txL fs a b).map D.str := by
 show (txL ((fs.map encF).map unF) a b).map D.str = _
 rw [zg3]
theorem zpc (fs : List Fct) (a b : List Nat) : (txL fs a b).length <= fs.length := by
 unfold txL
 rw [zdl, List.length_map]
 exact List.length_filter_le ..
theorem zj1 (Z : Tx K mg k_FIELDS f_texts_of f_cards_by_text f_texts_told f_law_cell_at f_law_stream f_law_cards f_law_text f_law_book f_law_due f_law_good f_law d_texts_of d_cards_by_text d_texts_told d_law_cell_at d_law_stream d_law_cards d_law_text d_law_book d_law_due d_law_good d_law) : FnOk P w K mg base CX0 1 f_texts_of d_texts_of ["book", "card", "field"] (SpO K ztj zry) := by
 refine Z.F_texts_of.ok zj5 (fun vs H Q E h => zev (n:=3) (by rintro ds ⟨c, a, b, rfl, _⟩; rfl) h) (fun cdv A outer s H vs Q E hr h => ⟨_, (zao (zb3 (za1 (show zca _ _ (zeu K) from zb6) (by rfl) Z.z_sorted boot_sorted (zaa (zju rfl (LcOk.of (Nx:=(["book", "card", "field"] : List Str)) (sc:=zad zbe) (N':=(["fact", "card", "field"] : List Str)) (nt:=1) (cs:=[1, 2]) rfl rfl (by decide +kernel)) (zbf (pv 0)) (fun _ _ _ _ => (zax (i:=0) (show List.Nodup (["fact", "card", "field"] : List Str) by decide +kernel) rfl (Or.inl rfl))) (fun _ _ _ _ => (zel (PW.pt (zny (zbq zih (zbn (show IxR _ (rIxT K) from zdh) (pv 0) zaf (fun _ _ => rfl)) (pv 1) (zc8 _)) (zjd (zbq zih (zbn (show IxR _ (rIxT K) from zdh) (pv 0) zaf (fun _ _ => rfl)) (pv 2) (zc8 _))))))) (fun _ _ _ _ => (zbn (show IxR _ (rIxT K) from zdh) (pv 0) zaf (fun _ _ => rfl)))) zai)))), ?_⟩)
 refine znb h (by rw [zev (n:=3) (by rintro ds ⟨c, a, b, rfl, _⟩; rfl) h]; decide) fun G ds hp rt => ?_
 obtain ⟨fs, a, b, rfl, hf⟩ := hp
 rw [zin] at rt
 have hfl := List.length_filter_le (fun f : Fct => decide (f.1 = a) && decide (f.2.1 = b)) fs
 have em : ((fs.filter fun f => decide (f.1 = a) && decide (f.2.1 = b)).map fun f => f.2.2).map D.str = (fs.filter fun f => decide (f.1 = a) && decide (f.2.1 = b)).map fun f => D.str f.2.2 := by rw [List.map_map]; rfl
 unfold txL at rt
 rw [zcs, em] at rt
 exact zj9 (zci (EvO.l (zf6 fs encF (fun f => decide (f.1 = a) && decide (f.2.1 = b)) (fun f => .str f.2.2) (zab rfl).l (zc4 (by decide)) (by decide) (by rw [sizeLine_eq]; omega) fun f hf => ⟨_, zbg, zkc (zba (ziz (zd3 (zab rfl) zag.b rfl).b (zab rfl).b)) fun _ => zba (ziz (zd3 (zab rfl) zag.b rfl).b (zab rfl).b), fun _ => zd3 (zab rfl) zag.b rfl⟩)) (zkh _ _) (by rw [List.length_map]; omega)) rt
noncomputable abbrev Pc := List Nat × List Nat
noncomputable def pcs (b : List Fct) (f : List Nat) (cs : List (List Nat)) : List Pc := cs.flatMap fun c => (txL b c f).map fun t => (t, c)
noncomputable def encP (p : Pc) : D := .str p.2
noncomputable def grp (ps : List Pc) : List (D × List D) := grpD encP D.str Prod.fst ps
theorem znw (a b : List Nat) (h : D.str a = D.str b) : a = b := by injection h
noncomputable def zu2 (ds : List D) : Prop := ∃ (b : List Fct) (gr : List (List Nat)) (f : List Nat), ds = [bkD b, grD gr, .str f] /\ b.length <= 60 /\ gr.length <= 6
noncomputable def zue : List D -> List (D × List D)
 | [.lst b, .lst gr, .str f] => grp (pcs (b.map unF) f (zat (gr.map unS)))
 | _ => []
theorem zis (b : List Fct) (gr : List (List Nat)) (f : List Nat) : zue [bkD b, grD gr, .str f] = grp (pcs b f (zat gr)) := by
 show grp (pcs ((b.map encF).map unF) f (zat ((gr.map D.str).map unS))) = _
 rw [zg3, zer]
theorem zom (b : List Fct) (f : List Nat) (hb : b.length <= 60) : ∀ cs : List (List Nat), (pcs b f cs).length <= 60 * cs.length
 | [] => Nat.le_refl _
 | c :: cs => by
  have := zom b f hb cs
  have h2 := zpc b c f
  unfold pcs at this ⊢
  rw [List.flatMap_cons, List.length_append, List.length_map, List.length_cons]
  omega
theorem zff (Z : Tx K mg k_FIELDS f_texts_of f_cards_by_text f_texts_told f_law_cell_at f_law_stream f_law_cards f_law_text f_law_book f_law_due f_law_good f_law d_texts_of d_cards_by_text d_texts_told d_law_cell_at d_law_stream d_law_cards d_law_text d_law_book d_law_due d_law_good d_law) : FnOk P w K mg base CX0 2 f_cards_by_text d_cards_by_text ["book", "group", "field"] (SpDL K zu2 zue) := by
 have G_texts_of := zj1 (P:=P) (w:=w) (base:=base) Z
 refine Z.F_cards_by_text.ok zbp (fun vs H Q E h => zk0 (n:=3) (by rintro ds ⟨c, a, b, rfl, _⟩; rfl) h) (fun cdv A outer s H vs Q E hr h => ⟨_, (zae (zaw (i:=3) zbp.nd rfl (Or.inl rfl) zqh)
   (zae (zck PassesOwn.never rfl (zbf (za1 (show zca _ _ (zeu K) from zb6) (by rfl) Z.z_sorted boot_sorted (zaa (pv 1) zai))) (zax (i:=4) zbp.nd rfl (Or.inl rfl)) (zao (zck PassesOwn.never rfl (zbf (zbx G_texts_of (hr.mono (by decide)) (by rfl) Z.M_texts_of Z.F_texts_of.kp Z.B_texts_of .nil zes (zaa (pv 0) (zaa (pv 4) (zaa (pv 2) zai))))) (zax (i:=5) zbp.nd rfl (Or.inl rfl)) (zao (zdc (zgj F.plainAttrs_list F.slot_list_append F.type_list_append zcc (zgj F.plainAttrs_dict F.slot_dict_setdefault F.type_dict_setdefault zho (pv 3) (zaa (pv 5) (zaa (zcp zai) zai))) (zaa (pv 4) zai)))))))
   (zao (zb3 (pv 3))))), ?_⟩)
 refine zrw h (by rw [zk0 (n:=3) (by rintro ds ⟨c, a, b, rfl, _⟩; rfl) h]; decide) fun G ds hp rt => ?_
 obtain ⟨b, gr, f, rfl, hb, hg⟩ := hp
 rw [zis] at rt
 have hz : ∀ {n : Nat}, n <= 1000 -> n < sizeLine := fun h => by rw [sizeLine_eq]; omega
 have hsl : (zat gr).length <= 6 := by rw [zdl]; exact hg
 refine zam (zqq fun p => ?_)
 ((try dsimp only); refine zaz ?_)
 refine zam (zfv D.str (zat gr) (fun k ss => ∃ (kqs : KQ) (v4 v5 : Sl), ss = [.d (bkD b), .d (grD gr), .d (.str f), dls K p kqs, v4, v5] /\ kqs.map dat = grp (pcs b f ((zat gr).take k))) (EvO.ev (by rw [zcs]; exact zci (zab rfl).l (al_s gr) (by rw [List.length_map]; omega))) ⟨[], .un, .un, rfl, rfl⟩ ?_ ?_)
 ·rintro L' k c ss hL hk ⟨kqs, v4, v5, rfl, hq⟩
  refine ⟨_, zbg, fun N hN => ?_⟩
  have hkl : ((zat gr).take k).length <= 5 := by have := (List.getElem?_eq_some_iff.mp hk).1; rw [List.length_take]; omega
  have hpl := zom b f hb ((zat gr).take k)
  have htl := zpc b c f
  refine zfv D.str (txL b c f) (fun q ss => ∃ (kqs : KQ) (v5 : Sl), ss = [.d (bkD b), .d (grD gr), .d (.str f), dls K p kqs, .d (.str c), v5] /\ kqs.map dat = grp (pcs b f ((zat gr).take k) ++ ((txL b c f).take q).map fun t => (t, c))) (by
   rw [<- zin b c f]
   exact EvO.ev (zeg (pre:=ztj) (res:=zry) (zac (zab rfl) (zac (zab rfl) (zac (zab rfl) zan))) ⟨b, c, f, rfl, hb⟩)) ⟨kqs, v5, rfl, by rw [hq, List.take_zero, List.map_nil, List.append_nil]⟩ ?_ ?_
  ·rintro L2 q t ss hL2 hqt ⟨kqs, v5, rfl, hq2⟩
   refine ⟨_, zbg, fun N2 hN2 => ?_⟩
   have hll : (pcs b f ((zat gr).take k) ++ ((txL b c f).take q).map fun t => (t, c)).length <= 600 := by
    rw [List.length_append, List.length_map, List.length_take]; omega
   have hlen : kqs.length <= 600 := by
    have h1 := congrArg List.length hq2
    rw [List.length_map] at h1
    have h2 := zpk (enc:=encP) (encB:=D.str) (f:=Prod.fst) (xs:=pcs b f ((zat gr).take k) ++ ((txL b c f).take q).map fun t => (t, c))
    unfold grp at h1
    omega
   refine zrt (i:=3) (k:=.str t) (d:=.str c) rfl (zab rfl).b rfl (fun kqs' => zab rfl) (hz (by omega)) (fun z hzm => hz ?_) fun kqs' he => hN2 _ ⟨kqs', _, rfl, ?_⟩
   ·have : dat z ∈ grp (pcs b f ((zat gr).take k) ++ ((txL b c f).take q).map fun t => (t, c)) := by rw [<- hq2]; exact List.mem_map_of_mem hzm
    have := zm0 this
    have e : (dat z).2 = z.2.2 := rfl
    rw [e] at this
    omega
   ·rw [he, hq2, List.take_add_one, hqt, List.map_append, <- List.append_assoc]
    exact zqu (x:=(t, c)) znw
  ·rintro ss ⟨kqs, v5, rfl, hq2⟩
   rw [List.take_length] at hq2
   refine hN _ ⟨kqs, _, _, rfl, ?_⟩
   rw [hq2, List.take_add_one, hk]
   congr 1
   unfold pcs
   rw [List.flatMap_append]
   simp
 ·rintro ss ⟨kqs, v4, v5, rfl, hq⟩
  rw [List.take_length] at hq
  ((try dsimp only); refine zaz ?_)
  refine zqp (i:=3) rfl ?_
  rw [hq]; exact rt
noncomputable def klP (ps : List Pc) : List (List Nat × List D) := (zdj Prod.fst ps).map fun h => (h.1, (ps.filter fun p => decide (p.1 = h.1)).map encP)
theorem ztt (ps : List Pc) : grp ps = (klP ps).map fun q => (D.str q.1, q.2) := by unfold grp grpD klP; rw [List.map_map]; rfl
noncomputable def crL (ps : List Pc) (t : List Nat) : List (List Nat) := (ps.filter fun p => decide (p.1 = t)).map Prod.snd
noncomputable def zex (ps : List Pc) : List (List Nat) := (zdj Prod.fst ps).map Prod.fst
noncomputable def prsS (ps : List Pc) : List (List Nat × List D) := (zat (zex ps)).map fun t => (t, (crL ps t).map D.str)
theorem zsb {ps : List Pc} {rs : List (List Nat × List D)} (h : rs.Perm (klP ps)) (hs : rs.map (fun q => D.str q.1) = zb9 ((klP ps).map fun q => D.str q.1)) : rs = prsS ps := by
 have h1 : ∀ x ∈ rs, x = (x.1, (crL ps x.1).map D.str) := fun x hx => by
  obtain ⟨y, _, rfl⟩ := List.mem_map.mp (h.mem_iff.mp hx)
  unfold crL
  rw [List.map_map]; rfl
 have h2 : rs.map (fun q => q.1) = zat (zex ps) := by
  have e : (klP ps).map (fun q => D.str q.1) = (zex ps).map D.str := by unfold klP zex; rw [List.map_map, List.map_map]; rfl
  rw [e, <- zcs] at hs
  have := congrArg (List.map unS) hs
  rw [zer, List.map_map] at this
  exact this
 unfold prsS
 rw [<- h2, List.map_map]
 conv => lhs; rw [<- List.map_id rs]
 exact List.map_congr_left fun x hx => h1 x hx
theorem zkj {ps : List Pc} {t : List Nat} : t ∈ zex ps ↔ ∃ p ∈ ps, p.1 = t := by
 unfold zex
 rw [List.mem_map]
 exact zem t
theorem zhh (ps : List Pc) : (zex ps).Nodup := zep
theorem zi6 {b : List Fct} {f : List Nat} {cs : List (List Nat)} {p : Pc} : p ∈ pcs b f cs ↔ p.2 ∈ cs /\ (p.2, f, p.1) ∈ b := by
 unfold pcs
 rw [List.mem_flatMap]
 constructor
 ·rintro ⟨c, hc, hp⟩
  obtain ⟨t, ht, rfl⟩ := List.mem_map.mp hp
  refine ⟨hc, ?_⟩
  unfold txL at ht
  rw [zcm, List.mem_map] at ht
  obtain ⟨x, hx, rfl⟩ := ht
  obtain ⟨hx1, hx2⟩ := List.mem_filter.mp hx
  simp only [Bool.and_eq_true, decide_eq_true_eq] at hx2
  obtain ⟨rfl, rfl⟩ := hx2
  exact hx1
 ·rintro ⟨hc, hp⟩
  refine ⟨p.2, hc, List.mem_map.mpr ⟨p.1, ?_, rfl⟩⟩
  unfold txL
  rw [zcm, List.mem_map]
  exact ⟨_, List.mem_filter.mpr ⟨hp, by simp⟩, rfl⟩
theorem zmx {α : Type} [DecidableEq α] : ∀ {a b : List α}, a.Nodup -> (∀ x ∈ a, x ∈ b) -> a.length <= b.length
 | [], b, _, _ => Nat.zero_le _
 | x :: a, b, h, hs => by
  rw [List.nodup_cons] at h
  have hx := hs x List.mem_cons_self
  have := zmx (a:=a) (b:=b.erase x) h.2 fun y hy => (List.mem_erase_of_ne (show y ≠ x from fun e => h.1 (by rw [<- e]; exact hy))).mpr (hs y (List.mem_cons_of_mem _ hy))
  rw [List.length_erase_of_mem hx] at this
  have hp : 0 < b.length := List.length_pos_of_mem hx
  simp only [List.length_cons]; omega
theorem zkl (b : List Fct) (f : List Nat) (cs : List (List Nat)) : (zex (pcs b f cs)).length <= b.length := by
 have := zmx (b:=b.map fun x => x.2.2) (zhh (pcs b f cs)) fun t ht => by
  obtain ⟨p, hp, rfl⟩ := zkj.mp ht
  exact List.mem_map.mpr ⟨_, (zi6.mp hp).2, rfl⟩
 rwa [List.length_map] at this
noncomputable def flds : List (List Nat) := [[110, 97, 109, 101], [102, 111, 114, 109, 101, 114], [119, 97, 121], [100, 97, 121], [109, 97, 114, 107]]
noncomputable def zej (b : List Fct) (gr : List (List Nat)) (f : List Nat) : List Rw := (prsS (pcs b f (zat gr))).map fun q => (f, q.1, q.2)
theorem zon (b : List Fct) (gr : List (List Nat)) (f : List Nat) : (zej b gr f).length <= b.length := by
 unfold zej prsS
 rw [List.length_map, List.length_map, zdl]
 exact zkl b f _
theorem zhu {α β : Type} {g : α -> List β} {n : Nat} (h : ∀ x, (g x).length <= n) : ∀ xs : List α, (xs.flatMap g).length <= n * xs.length
 | [] => Nat.zero_le _
 | x :: xs => by
  have h1 := zhu h xs
  have h2 := h x
  rw [List.flatMap_cons, List.length_append, List.length_cons, Nat.mul_add]
  omega
noncomputable def zor (ds : List D) : Prop := ∃ (b : List Fct) (gr : List (List Nat)), ds = [bkD b, grD gr] /\ b.length <= 60 /\ gr.length <= 6
noncomputable def zsv : List D -> List Rw
 | [.lst b, .lst gr] => flds.flatMap (zej (b.map unF) (gr.map unS))
 | _ => []
theorem ziw (b : List Fct) (gr : List (List Nat)) : zsv [bkD b, grD gr] = flds.flatMap (zej b gr) := by
 show flds.flatMap (zej ((b.map encF).map unF) ((gr.map D.str).map unS)) = _
 rw [zg3, zer]
theorem zfy (cs : List (List Nat)) : D.nbs (cs.map D.str) = true := D.nbs_map (fun _ => rfl) cs
theorem zhz (Z : Tx K mg k_FIELDS f_texts_of f_cards_by_text f_texts_told f_law_cell_at f_law_stream f_law_cards f_law_text f_law_book f_law_due f_law_good f_law d_texts_of d_cards_by_text d_texts_told d_law_cell_at d_law_stream d_law_cards d_law_text d_law_book d_law_due d_law_good d_law) : FnOk P w K mg base CX0 3 f_texts_told d_texts_told ["book", "group"] (zk3 K zor zsv) := by
 have G_cards_by_text := zff (P:=P) (w:=w) (base:=base) Z
 refine Z.F_texts_told.ok zbt (fun vs H Q E h => zgv (n:=2) (by rintro ds ⟨c, a, rfl, _⟩; rfl) h) (fun cdv A outer s H vs Q E hr h => ⟨_, (zae (zaw (i:=2) zbt.nd rfl (Or.inl rfl) (zcp zai))
   (zae (zck PassesOwn.never rfl (zt1 (zro (v:=.ref k_FIELDS) (by rfl) Z.M_FIELDS rfl)) (zax (i:=3) zbt.nd rfl (Or.inl rfl)) (zao (zck PassesOwn.never rfl (zbf (za1 (show zca _ _ (znm K) from zh9 rfl (hu66 hr)) (by rfl) Z.z_sorted boot_sorted (zaa (zko F.plainAttrs_dict F.slot_dict_items F.type_dict_items zp0 (zbx G_cards_by_text (hr.mono (by decide)) (by rfl) Z.M_cards_by_text Z.F_cards_by_text.kp Z.B_cards_by_text .nil zes (zaa (pv 0) (zaa (pv 1) (zaa (pv 3) zai))))) zai))) (zt5 rfl (zk9 (zax (i:=4) zbt.nd rfl (Or.inl rfl)) (zk9 (zax (i:=5) zbt.nd rfl (Or.inl rfl)) zsa))) (zao (zdc (zgj F.plainAttrs_list F.slot_list_append F.type_list_append zcc (pv 2) (zaa (zkg (zaa (pv 3) (zaa (pv 4) (zaa (pv 5) zai)))) zai)))))))
   (zao (zb3 (pv 2))))), ?_⟩)
 refine zpd h (by rw [zgv (n:=2) (by rintro ds ⟨c, a, rfl, _⟩; rfl) h]; decide) fun G ds hp rt => ?_
 obtain ⟨b, gr, rfl, hb, hg⟩ := hp
 rw [ziw] at rt
 have hz : ∀ {n : Nat}, n <= 1000 -> n < sizeLine := fun h => by rw [sizeLine_eq]; omega
 have hrl : ∀ f, (zej b gr f).length <= 60 := fun f => Nat.le_trans (zon b gr f) hb
 refine zam (zp1 fun p => ?_)
 ((try dsimp only); refine zaz ?_)
 refine zam (zs4 D.str flds (fun k ss => ∃ v3 v4 v5 : Sl, ss = [.d (bkD b), .d (grD gr), rsl K H p ((flds.take k).flatMap (zej b gr)), v3, v4, v5]) (zpm Z.K_FIELDS) ⟨.un, .un, .un, rfl⟩ ?_ ?_)
 ·rintro L' k f ss hL hk ⟨v3, v4, v5, rfl⟩
  refine ⟨_, zbg, fun N hN => ?_⟩
  have hk5 : k < 5 := (List.getElem?_eq_some_iff.mp hk).1
  have hfl := zhu hrl (flds.take k)
  have hft : (flds.take k).length <= 5 := by rw [List.length_take]; omega
  have hkp := zkl b f (zat gr)
  refine zrq (i:=4) (j:=5) (prsS (pcs b f (zat gr))) (fun q ss => ∃ v4 v5 : Sl, ss = [.d (bkD b), .d (grD gr), rsl K H p ((flds.take k).flatMap (zej b gr) ++ ((prsS (pcs b f (zat gr))).take q).map fun q => (f, q.1, q.2)), .d (.str f), v4, v5]) (zl0 (klP (pcs b f (zat gr))) (prsS (pcs b f (zat gr))) (ds:=[bkD b, grD gr, .str f]) (zac (zab rfl) (zac (zab rfl) (zac (zab rfl) zan))) ⟨b, gr, f, rfl, hb, hg⟩ (by rw [zis, ztt]) ?_ (fun q hq => ?_) ?_ fun rs h1 h2 => zsb h1 h2) ⟨v4, v5, by rw [List.take_zero, List.map_nil, List.append_nil]; rfl⟩ ?_ ?_
  ·have : (klP (pcs b f (zat gr))).map (fun q => q.1) = zex (pcs b f (zat gr)) := by unfold klP zex; rw [List.map_map]; rfl
   rw [this]; exact zhh _
  ·obtain ⟨y, _, rfl⟩ := List.mem_map.mp hq
   have e : ((pcs b f (zat gr)).filter fun p => decide (p.1 = y.1)).map encP = (((pcs b f (zat gr)).filter fun p => decide (p.1 = y.1)).map Prod.snd).map D.str := by rw [List.map_map]; rfl
   show D.nbs (((pcs b f (zat gr)).filter fun p => decide (p.1 = y.1)).map encP) = true /\ D.deps (((pcs b f (zat gr)).filter fun p => decide (p.1 = y.1)).map encP) <= 40
   rw [e]
   exact ⟨zfy _, by have := D.deps_map (enc:=D.str) (n:=0) (fun _ => Nat.le_refl _) (((pcs b f (zat gr)).filter fun p => decide (p.1 = y.1)).map Prod.snd); omega⟩
  ·have : (klP (pcs b f (zat gr))).length = (zex (pcs b f (zat gr))).length := by unfold klP zex; rw [List.length_map, List.length_map]
   omega
  ·rintro L2 q x ss c hL2 hq ⟨v4, v5, rfl⟩ N2 hN2
   have hql : ((prsS (pcs b f (zat gr))).take q).length <= 60 := by
    have h1 := hrl f
    unfold zej at h1
    rw [List.length_map] at h1
    rw [List.length_take]; omega
   refine zmj (i:=2) (jf:=3) (jt:=4) (jc:=5) rfl rfl rfl rfl (hz (by rw [List.length_append, List.length_map]; omega)) (hN2 _ ⟨.d (.str x.1), csl K H c x.2, ?_⟩)
   rw [List.take_add_one, hq, List.map_append, <- List.append_assoc]
   rfl
  ·rintro ss ⟨v4, v5, rfl⟩
   rw [List.take_length]
   refine hN _ ⟨.d (.str f), v4, v5, ?_⟩
   rw [List.take_add_one, hk, List.flatMap_append]
   simp [zej]
 ·rintro ss ⟨v3, v4, v5, rfl⟩
  ((try dsimp only); refine zaz ?_)
  refine zls (i:=2) rfl ?_
  exact rt
noncomputable def zm9 (ds : List D) : Prop := ∃ (ns : List Int) (cs : List (List Nat)) (c : Int), ds = [.lst (ns.map .int), grD cs, .int c] /\ ns.length <= 60 /\ cs ≠ []
noncomputable def zoh (_ : List D) (rs : List D) : Prop := ∃ b : List Fct, rs = b.map encF /\ Bk b /\ b.length <= 60
theorem zoy (x : Int) : ∃ l, atI zcv (x % 5) = some (.str l) := by
 obtain ⟨l, e⟩ := znu x
 exact ⟨l, by rw [<- e]; exact zj0 zcv .non x rfl (by decide)⟩
theorem zpz (x : Int) : ∃ l, atI zdp (x % 2) = some (.str l) := by
 obtain ⟨l, e⟩ := zqo x
 exact ⟨l, by rw [<- e]; exact zj0 zdp .non x rfl (by decide)⟩
theorem zos {K : PySem.W.Frag} {G H₀ L : Hp} {ss : List Sl} {t : TE} {x : Int} {l : List Nat} (a : EvB K G H₀ L ss t (.int (x % 5))) (h : atI zcv (x % 5) = some (.str l)) : Ev K G H₀ L ss (tOp (rIxL K) (tLst (za9 (tC (.str "name")) (za9 (tC (.str "former")) (za9 (tC (.str "way")) (za9 (tC (.str "day")) (za9 (tC (.str "mark")) tNil)))))) t) (.str l) :=
 zbw (ds:=zcv) (EvO.l (zcd (zac (zfc (by decide)) (zac (zfc (by decide)) (zac (zfc (by decide)) (zac (zfc (by decide)) (zac (zfc (by decide)) zan))))) (small (by decide)))) a h
theorem zp7 {K : PySem.W.Frag} {G H₀ L : Hp} {ss : List Sl} {t : TE} {x : Int} {l : List Nat} (a : EvB K G H₀ L ss t (.int (x % 2))) (h : atI zdp (x % 2) = some (.str l)) : Ev K G H₀ L ss (tOp (rIxL K) (tLst (za9 (tC (.str "same")) (za9 (tC (.str "apart")) tNil))) t) (.str l) :=
 zbw (ds:=zdp) (EvO.l (zcd (zac (zfc (by decide)) (zac (zfc (by decide)) zan)) (small (by decide)))) a h
theorem zmr (d : Int) : (textL d).length <= 1000 := by
 unfold textL
 dsimp only
 split
 ·simp
 ·have h1 := zoq [32].contains ((List.range (zbz d).toNat).map fun i => ze1.getD (num d (i + 2) % 94).toNat 0)
  rw [List.length_map, List.length_range] at h1
  have := ze7 d
  omega
theorem zi4 (Z : Tx K mg k_FIELDS f_texts_of f_cards_by_text f_texts_told f_law_cell_at f_law_stream f_law_cards f_law_text f_law_book f_law_due f_law_good f_law d_texts_of d_cards_by_text d_texts_told d_law_cell_at d_law_stream d_law_cards d_law_text d_law_book d_law_due d_law_good d_law) : FnOk P w K mg base CX0 3 f_law_book d_law_book ["_law_cells", "_law_cards_here", "_law_cell"] (SpR K zm9 zoh) := by
 have G_law_stream := zc1 (P:=P) (w:=w) (base:=base) Z
 have G_law_text := zka (P:=P) (w:=w) (base:=base) Z
 refine Z.F_law_book.ok za8 (fun vs H Q E h => zoa (n:=3) (by rintro ds ⟨ns, cs, c, rfl, _⟩; rfl) h) (fun cdv A outer s H vs Q E hr h => ⟨_, (zae (zaw (i:=3) za8.nd rfl (Or.inl rfl) (zcp zai))
   (zae (zck PassesOwn.never rfl (zbf (pv 0)) (zax (i:=4) za8.nd rfl (Or.inl rfl)) (zae (zaw (i:=5) za8.nd rfl (Or.inl rfl) (zbx G_law_stream (hr.mono (by decide)) (by rfl) Z.M_law_stream Z.F_law_stream.kp Z.B_law_stream .nil zes (zaa (pv 4) (zaa zaf zai))))
   (zae (zaw (i:=6) za8.nd rfl (Or.inl rfl) (zbn (show IxR _ (rIxL K) from zbb) (pv 1) (za6 zbv (zbn (show IxR _ (rIxL K) from zbb) (pv 5) zaf (fun _ _ => rfl)) (za1 zb0 (by rfl) Z.z_len boot_len (zaa (pv 1) zai))) (fun _ _ => rfl)))
   (zae (zaw (i:=7) za8.nd rfl (Or.inl rfl) (zbn (show IxR _ (rIxL K) from zbb) (pv 1) (za6 zbv (zbn (show IxR _ (rIxL K) from zbb) (pv 5) zaf (fun _ _ => rfl)) (za1 zb0 (by rfl) Z.z_len boot_len (zaa (pv 1) zai))) (fun _ _ => rfl)))
   (zae (zaw (i:=8) za8.nd rfl (Or.inl rfl) (zbx G_law_text (hr.mono (by decide)) (by rfl) Z.M_law_text Z.F_law_text.kp Z.B_law_text .nil zes (zaa (za6 zc5 (pv 2) (za6 zbv (za6 zd5 (zbn (show IxR _ (rIxL K) from zbb) (pv 5) zaf (fun _ _ => rfl)) zaf) zaf)) zai)))
   (zae (zh2 (zbq zih (za6 zbv (za6 zd5 (zbn (show IxR _ (rIxL K) from zbb) (pv 5) zaf (fun _ _ => rfl)) zaf) zaf) zaf (zc8 _)) (zao (zaw (i:=8) za8.nd rfl (Or.inl rfl) (zko F.plainAttrs_str F.slot_str_upper F.type_str_upper zqd (pv 8)))) zdm)
   (zae (zaw (i:=9) za8.nd rfl (Or.inl rfl) (zkg (zaa (pv 6) (zaa (zbn (show IxR _ (rIxL K) from zbb) (zcp (zaa zbu (zaa zbu (zaa zbu (zaa zbu (zaa zbu zai)))))) (za6 zbv (za6 zd5 (zbn (show IxR _ (rIxL K) from zbb) (pv 5) zaf (fun _ _ => rfl)) zaf) zaf) (fun _ _ => rfl)) (zaa (pv 8) zai)))))
   (zae (zh2 (PW.pt (zny (zbq zih (za6 zbv (zbn (show IxR _ (rIxL K) from zbb) (pv 5) zaf (fun _ _ => rfl)) zaf) zaf (zc8 _)) (zjd (zbq zu7 (pv 6) (pv 7) (zc8 _))))) (zao (zaw (i:=9) za8.nd rfl (Or.inl rfl) (zkg (zaa (za1 (zox rfl) (by rfl) Z.z_min boot_min (zaa (pv 6) (zaa (pv 7) zai))) (zaa (zbn (show IxR _ (rIxL K) from zbb) (zcp (zaa zbu (zaa zbu zai))) (za6 zbv (za6 zd5 (zbn (show IxR _ (rIxL K) from zbb) (pv 5) zaf (fun _ _ => rfl)) zaf) zaf) (fun _ _ => rfl)) (zaa (za1 (zmi rfl) (by rfl) Z.z_max boot_max (zaa (pv 6) (zaa (pv 7) zai))) zai)))))) zdm)
   (zao (zh2 (zbq (show OpR _ _ (rInD K true) from zoc hr.units) (pv 9) (pv 3) (by with_unfolding_all rfl)) (zao (zdc (zgj F.plainAttrs_list F.slot_list_append F.type_list_append zcc (pv 3) (zaa (pv 9) zai)))) zdm))))))))))
   (zao (zb3 (za1 (show zca _ _ (zeu K) from zb6) (by rfl) Z.z_sorted boot_sorted (zaa (pv 3) zai)))))), ?_⟩)
 refine ztz h (by rw [zoa (n:=3) (by rintro ds ⟨ns, cs, c, rfl, _⟩; rfl) h]; decide) fun G ds hp rt => ?_
 obtain ⟨ns, cs, c, rfl, hnl, hcs⟩ := hp
 have hlm : ((cs.map D.str).length : Int) = cs.length := by simp
 have hl0 : 0 < cs.length := List.length_pos_iff.mpr hcs
 refine zam (zcz (zcd zan (small (by decide))) fun p => ?_)
 ((try dsimp only); refine zaz ?_)
 refine zam (zfv D.int ns (fun k ss => ∃ (fs : List Fct) (v4 v5 v6 v7 v8 v9 : Sl), ss = [.d (.lst (ns.map .int)), .d (grD cs), .d (.int c), .o p (fs.map encF), v4, v5, v6, v7, v8, v9] /\ fs.length <= k /\ fs.Nodup) (zab rfl) ⟨[], .un, .un, .un, .un, .un, .un, rfl, Nat.le_refl _, List.nodup_nil⟩ ?_ ?_)
 ·rintro L' k x ss hL hk ⟨fs, v4, v5, v6, v7, v8, v9, rfl, hfl, hfn⟩
  refine ⟨_, zbg, fun N hN => ?_⟩
  have hk63 : k < 60 := by have := (List.getElem?_eq_some_iff.mp hk).1; omega
  refine zam (zcz (zeg (pre:=zef) (res:=zcr) (zac (zab rfl) (zac zag zan)) ⟨x, 3, rfl, by decide, by decide⟩) fun pd => zds (i:=5) rfl ?_)
  ((try dsimp only); refine zaz ?_)
  have x0 := zcl x 3 0 (by decide)
  have x1 := zcl x 3 1 (by decide)
  have x2 := zcl x 3 2 (by decide)
  have ex3 : zcr [.int x, .int 3] = zce x 3 := rfl
  rw [ex3]
  have card : ∀ {L0 : Hp} {ss : List Sl} {d : Int} {t : TE}, ss[1]? = some (.d (grD cs)) -> EvB K G H L0 ss t (.int d) -> Ev K G H L0 ss (tOp (rIxL K) (tVar 1) (tOp (rI (fun _ j => 0 < j) fun i j => .int (i % j)) t (tCB (fun xs H Q => ∃ p ys, xs = [.ref p] /\ (SqL K H p ys \/ SqT K H p ys) /\ Q (.int ys.length) H) (za9 (tVar 1) tNil)))) (.str (cardAt cs d)) := fun {L0 ss d t} h1 a =>
   zbw (zab h1).l (zb1 a (Ev.b (by rw [<- hlm]; exact zgz (zab h1).l)) (by omega)).b (zqr cs d hcs)
  refine zam (zbo (card rfl (zbw (zab rfl).l zag.b x0).b) ?_)
  ((try dsimp only); refine zaz ?_)
  refine zam (zbo (card rfl (zbw (zab rfl).l zag.b x1).b) ?_)
  ((try dsimp only); refine zaz ?_)
  generalize cardAt cs (num x (0 + 2)) = c1
  generalize cardAt cs (num x (1 + 2)) = c2
  have htl := zmr (c + num x (1 + 2) / 6 % 3)
  refine zam (zbo (d:=.str (textL (c + num x (1 + 2) / 6 % 3))) (zg6 (pre:=zo4) (res:=zjq) (zac (zc7 (zab rfl).b (zb1 (zd4 (zbw (zab rfl).l zag.b x1).b zag.b ⟨by decide, by decide⟩).b zag.b (by decide)).b) zan) ⟨_, rfl⟩) ?_)
  ((try dsimp only); refine zaz ?_)
  generalize textL (c + num x (1 + 2) / 6 % 3) = tx0 at htl
  obtain ⟨fl, hfld⟩ := zoy (num x (2 + 2) / 12)
  refine zm7 (fun ss => ∃ tx : List Nat, ss = [.d (.lst (ns.map .int)), .d (grD cs), .d (.int c), .o p (fs.map encF), .d (.int x), .d (.lst (zce x 3)), .d (.str c1), .d (.str c2), .d (.str tx), v9]) (fun N' hN' => zic (zba (znv (zb1 (zd4 (zbw (zab rfl).l zag.b x2).b zag.b ⟨by decide, by decide⟩).b zag.b (by decide)).b zag.b)) (fun hb => ?_) (fun hb => ?_)) ?_
  ·exact zbo (zoo (zab rfl).b (by omega)) (hN' _ ⟨_, rfl⟩)
  ·exact zdb (hN' _ ⟨tx0, rfl⟩)
  rintro ss ⟨tx, rfl⟩
  refine zam (zbo (d:=encF (c1, fl, tx)) (zns (zac (zab rfl) (zac (zos (zb1 (zd4 (zbw (zab rfl).l zag.b x2).b zag.b ⟨by decide, by decide⟩).b zag.b (by decide)).b hfld) (zac (zab rfl) zan))) (small (by simp))) ?_)
  ((try dsimp only); refine zaz ?_)
  obtain ⟨pl, hpr⟩ := zpz (num x (2 + 2) / 6)
  refine zm7 (fun ss => ∃ g : Fct, ss = [.d (.lst (ns.map .int)), .d (grD cs), .d (.int c), .o p (fs.map encF), .d (.int x), .d (.lst (zce x 3)), .d (.str c1), .d (.str c2), .d (.str tx), .d (encF g)]) (fun N' hN' => zic (zkc (zba (znv (zb1 (zbw (zab rfl).l zag.b x2).b zag.b (by decide)).b zag.b)) fun _ => zba (zuf (zab rfl).b (zab rfl).b)) (fun hb => ?_) (fun hb => ?_)) ?_
  ·exact zbo (d:=encF (_, pl, _)) (zns (zac (zsq (zab rfl).b (zab rfl).b) (zac (zp7 (zb1 (zd4 (zbw (zab rfl).l zag.b x2).b zag.b ⟨by decide, by decide⟩).b zag.b (by decide)).b hpr) (zac (zsm (zab rfl).b (zab rfl).b) zan))) (small (by simp))) (hN' _ ⟨_, rfl⟩)
  ·exact zdb (hN' _ ⟨(c1, fl, tx), rfl⟩)
  ·rintro ss ⟨g, rfl⟩
   refine zic (b:=!decide (encF g ∈ fs.map encF)) (zba (zn8 (zab rfl).b (zea rfl).b (nbF g) (D.nbs_map nbF _) (by have := dpF g; omega))) (fun hb => ?_) (fun hb => zdb (hN _ ⟨fs, _, _, _, _, _, _, rfl, by omega, hfn⟩))
   rw [Bool.not_eq_true', decide_eq_false_iff_not, ztg] at hb
   refine zeh rfl (zab rfl) (by rw [List.length_map, sizeLine_eq]; omega) (hN _ ⟨fs ++ [g], _, _, _, _, _, _, by rw [List.map_append]; rfl, by simp; omega, ?_⟩)
   rw [List.nodup_append]
   exact ⟨hfn, by simp, fun a ha c hc e => by rw [List.mem_singleton] at hc; subst hc; subst e; exact hb ha⟩
 ·rintro ss ⟨fs, v4, v5, v6, v7, v8, v9, rfl, hfl, hfn⟩
  ((try dsimp only); refine zaz ?_)
  refine zj9 (ds:=(mkB fs).map encF) ?_ (rt _ ⟨mkB fs, rfl, zuk hfn, by rw [zsg]; omega⟩)
  rw [<- zph]
  exact zci (zea rfl) (alF _) (by rw [List.length_map]; omega)
noncomputable def fctF (b : List Fct) (gr : List (List Nat)) (f : List Nat) : List Fct := b.filter fun x => decide (x.2.1 = f) && decide (x.1 ∈ gr)
noncomputable def dueT (b : List Fct) (gr : List (List Nat)) (f : List Nat) : List (List Nat) := zat (zdj id ((fctF b gr f).map fun x => x.2.2))
noncomputable def dueC (b : List Fct) (gr : List (List Nat)) (f t : List Nat) : List (List Nat) := zat (((fctF b gr f).filter fun x => decide (x.2.2 = t)).map fun x => x.1)
noncomputable def zf2 (b : List Fct) (gr : List (List Nat)) (f t : List Nat) : Rw := (f, t, (dueC b gr f t).map D.str)
noncomputable def dueF (b : List Fct) (gr : List (List Nat)) (f : List Nat) : List Rw := (dueT b gr f).map (zf2 b gr f)
theorem ztq {b : List Fct} {c f t : List Nat} : t ∈ txL b c f ↔ (c, f, t) ∈ b := by
 unfold txL
 rw [zcm, List.mem_map]
 constructor
 ·rintro ⟨x, hx, rfl⟩
  obtain ⟨hx1, hx2⟩ := List.mem_filter.mp hx
  simp only [Bool.and_eq_true, decide_eq_true_eq] at hx2
  obtain ⟨rfl, rfl⟩ := hx2
  exact hx1
 ·intro h
  exact ⟨_, List.mem_filter.mpr ⟨h, by simp⟩, rfl⟩
theorem zts {b : List Fct} (hb : b.Nodup) (c f : List Nat) : (txL b c f).Nodup := by
 unfold txL
 rw [(zdw _).nodup_iff]
 unfold List.Nodup at *
 rw [List.pairwise_map]
 refine List.Pairwise.imp_of_mem ?_ (hb.sublist List.filter_sublist)
 intro x y hx hy hne e
 have h1 := (List.mem_filter.mp hx).2
 have h2 := (List.mem_filter.mp hy).2
 simp only [Bool.and_eq_true, decide_eq_true_eq] at h1 h2
 obtain ⟨x1, x2, x3⟩ := x
 obtain ⟨y1, y2, y3⟩ := y
 dsimp only at h1 h2 e
 obtain ⟨rfl, rfl⟩ := h1
 obtain ⟨rfl, rfl⟩ := h2
 subst e
 exact hne rfl
theorem zq3 {t : List Nat} (c : List Nat) : ∀ {ts : List (List Nat)}, ts.Nodup -> ((ts.map fun u => ((u, c) : Pc)).filter fun p => decide (p.1 = t)).map Prod.snd = if t ∈ ts then [c] else []
 | [], _ => rfl
 | u :: ts, h => by
  obtain ⟨h1, h2⟩ := List.nodup_cons.mp h
  have ih := zq3 c h2 (t:=t)
  rw [List.map_cons, List.filter_cons]
  by_cases e : u = t
  ·subst e
   rw [if_neg h1] at ih
   simp only [decide_true, if_true, List.map_cons, ih, List.mem_cons, true_or]
  ·have e2 : ¬ t = u := fun z => e z.symm
   simp only [e, decide_false, Bool.false_eq_true, if_false, ih, List.mem_cons, e2, false_or]
theorem zty {b : List Fct} (hb : b.Nodup) (f t : List Nat) : ∀ cs : List (List Nat), crL (pcs b f cs) t = cs.filter fun c => decide (t ∈ txL b c f)
 | [] => rfl
 | c :: cs => by
  have ih := zty hb f t cs
  unfold crL pcs at *
  rw [List.flatMap_cons, List.filter_append, List.map_append, ih, zq3 c (zts hb c f), List.filter_cons]
  by_cases h : t ∈ txL b c f
  ·simp [h]
  ·simp [h]
theorem zjo {cs us : List (List Nat)} (q : List Nat -> Bool) (hc : cs.Nodup) (hu : us.Nodup) (h : ∀ c, c ∈ us ↔ c ∈ cs /\ q c = true) : (zat cs).filter q = zat us := by
 have hnd : ((zat cs).filter q).Nodup := ((zdw cs).nodup_iff.mpr hc).sublist List.filter_sublist
 have hp : ((zat cs).filter q).Perm us := (List.perm_ext_iff_of_nodup hnd hu).mpr fun c => by rw [List.mem_filter, zcm, h]
 have hs : (((zat cs).filter q).map D.str).Pairwise fun a b => a.leB b = true := by
  have h1 := zdk (cs.map D.str)
  rw [<- zcs] at h1
  exact h1.sublist (List.filter_sublist.map D.str)
 have := zeo (al_s us) (hp.map D.str) hs
 have := congrArg (List.map unS) this
 rw [zer] at this
 exact this
theorem zqe {b : List Fct} {gr : List (List Nat)} (hb : b.Nodup) (hg : gr.Nodup) (f : List Nat) : zej b gr f = dueF b gr f := by
 have hk : zat (zex (pcs b f (zat gr))) = dueT b gr f := by
  unfold dueT
  refine zpe (zhh _) (by have := zep (f:=id) (xs:=(fctF b gr f).map fun x => x.2.2); rwa [List.map_id] at this) fun t => ?_
  rw [zkj]
  have h2 : t ∈ zdj id ((fctF b gr f).map fun x => x.2.2) ↔ t ∈ (fctF b gr f).map fun x => x.2.2 := by
   have := zem (f:=id) (xs:=(fctF b gr f).map fun x => x.2.2) t
   simpa using this
  rw [h2, List.mem_map]
  constructor
  ·rintro ⟨p, hp, rfl⟩
   obtain ⟨h3, h4⟩ := zi6.mp hp
   rw [zcm] at h3
   exact ⟨_, List.mem_filter.mpr ⟨h4, by simp [h3]⟩, rfl⟩
  ·rintro ⟨x, hx, rfl⟩
   obtain ⟨h3, h4⟩ := List.mem_filter.mp hx
   simp only [Bool.and_eq_true, decide_eq_true_eq] at h4
   obtain ⟨rfl, h4⟩ := h4
   exact ⟨(x.2.2, x.1), zi6.mpr ⟨zcm.mpr h4, h3⟩, rfl⟩
 unfold zej prsS dueF
 rw [hk, List.map_map]
 refine List.map_congr_left fun t _ => ?_
 show ((f, t, (crL (pcs b f (zat gr)) t).map D.str) : Rw) = zf2 b gr f t
 unfold zf2 dueC
 rw [zty hb, zjo (us:=((fctF b gr f).filter fun x => decide (x.2.2 = t)).map fun x => x.1) (fun c => decide (t ∈ txL b c f)) hg ?_ fun c => ?_]
 ·unfold List.Nodup at *
  rw [List.pairwise_map]
  refine List.Pairwise.imp_of_mem ?_ ((hb.sublist List.filter_sublist).sublist List.filter_sublist)
  intro x y hx hy hne e
  obtain ⟨hx, h1⟩ := List.mem_filter.mp hx
  obtain ⟨hy, h2⟩ := List.mem_filter.mp hy
  have h3 := (List.mem_filter.mp hx).2
  have h4 := (List.mem_filter.mp hy).2
  simp only [Bool.and_eq_true, decide_eq_true_eq] at h1 h2 h3 h4
  obtain ⟨x1, x2, x3⟩ := x
  obtain ⟨y1, y2, y3⟩ := y
  dsimp only at h1 h2 h3 h4 e
  subst e h1 h2
  obtain ⟨rfl, _⟩ := h3
  obtain ⟨rfl, _⟩ := h4
  exact hne rfl
 ·rw [List.mem_map, decide_eq_true_eq, ztq]
  constructor
  ·rintro ⟨⟨x1, x2, x3⟩, hx, rfl⟩
   obtain ⟨hx1, h1⟩ := List.mem_filter.mp hx
   obtain ⟨hx2, h2⟩ := List.mem_filter.mp hx1
   simp only [Bool.and_eq_true, decide_eq_true_eq] at h1 h2
   subst h1
   obtain ⟨rfl, h2⟩ := h2
   exact ⟨h2, hx2⟩
  ·rintro ⟨h1, h2⟩
   exact ⟨(c, f, t), List.mem_filter.mpr ⟨List.mem_filter.mpr ⟨h2, by simp [h1]⟩, by simp⟩, rfl⟩
noncomputable def zo1 : List D -> D
 | [.lst b, .lst gr] => .lst ((flds.flatMap (dueF (b.map unF) (gr.map unS))).map rwD)
 | _ => .non
theorem zgp (b : List Fct) (gr : List (List Nat)) : zo1 [bkD b, grD gr] = .lst ((flds.flatMap (dueF b gr)).map rwD) := by
 show D.lst ((flds.flatMap (dueF ((b.map encF).map unF) ((gr.map D.str).map unS))).map rwD) = _
 rw [zg3, zer]
theorem zug {c : List Nat} {cs : List (List Nat)} : D.str c ∈ cs.map D.str ↔ c ∈ cs :=
 ⟨fun h => by obtain ⟨g, hg, e⟩ := List.mem_map.mp h; injection e with e; rw [<- e]; exact hg, fun h => List.mem_map_of_mem h⟩
theorem zg2 (b : List Fct) (gr : List (List Nat)) (f : List Nat) : (dueT b gr f).length <= b.length := by
 unfold dueT
 rw [zdl]
 have h1 := zmx (a:=zdj id ((fctF b gr f).map fun x => x.2.2)) (b:=(fctF b gr f).map fun x => x.2.2) (by have := zep (f:=id) (xs:=(fctF b gr f).map fun x => x.2.2); rwa [List.map_id] at this) fun t ht => ziu ht
 rw [List.length_map] at h1
 exact Nat.le_trans h1 (List.length_filter_le ..)
theorem zl3 (Z : Tx K mg k_FIELDS f_texts_of f_cards_by_text f_texts_told f_law_cell_at f_law_stream f_law_cards f_law_text f_law_book f_law_due f_law_good f_law d_texts_of d_cards_by_text d_texts_told d_law_cell_at d_law_stream d_law_cards d_law_text d_law_book d_law_due d_law_good d_law) : FnOk P w K mg base CX0 1 f_law_due d_law_due ["_law_book_here", "_law_group"] (SpD K zor zo1) := by
 refine Z.F_law_due.ok zcj (fun vs H Q E h => zde (n:=2) (by rintro ds ⟨b, gr, rfl, _⟩; rfl) h) (fun cdv A outer s H vs Q E hr h => ⟨_, (zae (zaw (i:=2) zcj.nd rfl (Or.inl rfl) (zcp zai))
   (zae (zck PassesOwn.never rfl (zbf (zcp (zaa zbu (zaa zbu (zaa zbu (zaa zbu (zaa zbu zai))))))) (zax (i:=3) zcj.nd rfl (Or.inr rfl)) (zae (zlp (i:=4) zcj.nd rfl (Or.inl rfl) rfl (LcOk.of (Nx:=(["_law_book_here", "_law_group", "_law_rows", "_law_field", "_law_facts", "_law_text_here"] : List Str)) (sc:=zad zbc) (N':=(["_law_fact", "_law_field", "_law_group"] : List Str)) (nt:=1) (cs:=[3, 1]) rfl rfl (by decide +kernel)) (zbf (pv 0)) (fun _ _ _ _ => (zax (i:=0) (show List.Nodup (["_law_fact", "_law_field", "_law_group"] : List Str) by decide +kernel) rfl (Or.inl rfl))) (fun _ _ _ _ => (zel (PW.pt (zny (zbq zih (zbn (show IxR _ (rIxT K) from zdh) (pv 0) zaf (fun _ _ => rfl)) (pv 1) (zc8 _)) (zjd (zbq (show OpR _ _ (rInD K false) from zq6 hr.units) (zbn (show IxR _ (rIxT K) from zdh) (pv 0) zaf (fun _ _ => rfl)) (pv 2) (by with_unfolding_all rfl))))))) (fun _ _ _ _ => (pv 0)))
   (zao (zck PassesOwn.never rfl (zbf (za1 (show zca _ _ (zhe P w K true) from zgf rfl) (by rfl) Z.z_sorted boot_sorted (zaa (zf0 (show zca _ _ (zo9 P w K true) from znq rfl hr.units) (by rfl) Z.z_set boot_set (zaa (zju rfl (LcOk.of (Nx:=(["_law_book_here", "_law_group", "_law_rows", "_law_field", "_law_facts", "_law_text_here"] : List Str)) (sc:=zad zbc) (N':=(["_law_fact"] : List Str)) (nt:=1) (cs:=[]) rfl rfl (by decide +kernel)) (zbf (pv 4)) (fun _ _ _ _ => (zax (i:=0) (show List.Nodup (["_law_fact"] : List Str) by decide +kernel) rfl (Or.inl rfl))) (fun _ _ _ _ => zfn) (fun _ _ _ _ => (zbn (show IxR _ (rIxT K) from zdh) (pv 0) zaf (fun _ _ => rfl)))) zai)) zai))) (zax (i:=5) zcj.nd rfl (Or.inr rfl)) (zao (zdc (zgj F.plainAttrs_list F.slot_list_append F.type_list_append zcc (pv 2) (zaa (zkg (zaa (pv 3) (zaa (pv 5) (zaa (za1 (show zca _ _ (zeu K) from zb6) (by rfl) Z.z_sorted boot_sorted (zaa (zju rfl (LcOk.of (Nx:=(["_law_book_here", "_law_group", "_law_rows", "_law_field", "_law_facts", "_law_text_here"] : List Str)) (sc:=zad zbc) (N':=(["_law_fact", "_law_text_here"] : List Str)) (nt:=1) (cs:=[5]) rfl rfl (by decide +kernel)) (zbf (pv 4)) (fun _ _ _ _ => (zax (i:=0) (show List.Nodup (["_law_fact", "_law_text_here"] : List Str) by decide +kernel) rfl (Or.inl rfl))) (fun _ _ _ _ => (zel (zbq zih (zbn (show IxR _ (rIxT K) from zdh) (pv 0) zaf (fun _ _ => rfl)) (pv 1) (zc8 _)))) (fun _ _ _ _ => (zbn (show IxR _ (rIxT K) from zdh) (pv 0) zaf (fun _ _ => rfl)))) zai)) zai)))) zai))))))))
   (zao (zb3 (pv 2))))), ?_⟩)
 refine zke h (by rw [zde (n:=2) (by rintro ds ⟨b, gr, rfl, _⟩; rfl) h]; decide) fun G ds hp rt => ?_
 obtain ⟨b, gr, rfl, hbl, hgl⟩ := hp
 rw [zgp] at rt
 have hz : ∀ {n : Nat}, n <= 1000 -> n < sizeLine := fun h => by rw [sizeLine_eq]; omega
 have hdl : ∀ f, (dueF b gr f).length <= 60 := fun f => by unfold dueF; rw [List.length_map]; exact Nat.le_trans (zg2 b gr f) hbl
 refine zam (zcz (ds:=[]) (zcd zan (small (by decide))) fun p => ?_)
 ((try dsimp only); refine zaz ?_)
 refine zam (zfv D.str flds (fun k ss => ∃ v3 v4 v5 : Sl, ss = [.d (bkD b), .d (grD gr), .o p (((flds.take k).flatMap (dueF b gr)).map rwD), v3, v4, v5]) (EvO.ev (zcd (ds:=flds.map D.str) (zac (zc6 (by decide +kernel) (by decide +kernel)) (zac (zc6 (by decide +kernel) (by decide +kernel)) (zac (zc6 (by decide +kernel) (by decide +kernel)) (zac (zc6 (by decide +kernel) (by decide +kernel)) (zac (zc6 (by decide +kernel) (by decide +kernel)) zan))))) (small (by decide)))) ⟨.un, .un, .un, rfl⟩ ?_ ?_)
 ·rintro L' k f ss hL hk ⟨v3, v4, v5, rfl⟩
  refine ⟨_, zbg, fun N hN => ?_⟩
  have hk5 : k < 5 := (List.getElem?_eq_some_iff.mp hk).1
  have hfl := zhu hdl (flds.take k)
  have hft : (flds.take k).length <= 5 := by rw [List.length_take]; omega
  have hcl : (fctF b gr f).length <= 60 := Nat.le_trans (List.length_filter_le ..) hbl
  have ef : (b.filter fun x => decide (x.2.1 = f) && decide (D.str x.1 ∈ gr.map D.str)) = fctF b gr f := List.filter_congr fun x _ => by simp only [zug]
  refine zam (zcz (ds:=(fctF b gr f).map encF) (by
   rw [<- ef]
   exact zf6 b encF (fun x => decide (x.2.1 = f) && decide (D.str x.1 ∈ gr.map D.str)) encF (zab rfl).l (zc4 (by decide)) (by decide) (by rw [sizeLine_eq]; omega) fun x hx => ⟨_, zbg, zkc (zba (ziz (Ev.b (zd3 (d:=.str x.2.1) (zab rfl) zag.b rfl)) (zab rfl).b)) fun _ => zba (zq5 (Ev.b (zd3 (d:=.str x.1) (zab rfl) zag.b rfl)) (zab rfl).b rfl (zfy gr) (by show 0 <= 60; decide)), fun _ => zab rfl⟩) fun pf => zds (i:=4) rfl ?_)
  ((try dsimp only); refine zaz ?_)
  have ht : (zdj id ((fctF b gr f).map fun x => x.2.2)).length <= 60 := by
   have := zg2 b gr f
   unfold dueT at this
   rw [zdl] at this
   omega
  have et : ((fctF b gr f).map fun x => x.2.2).map D.str = (fctF b gr f).map fun x => D.str x.2.2 := by rw [List.map_map]; rfl
  refine zfv D.str (dueT b gr f) (fun q ss => ∃ v5 : Sl, ss = [.d (bkD b), .d (grD gr), .o p (((flds.take k).flatMap (dueF b gr) ++ ((dueT b gr f).take q).map (zf2 b gr f)).map rwD), .d (.str f), .d (.lst ((fctF b gr f).map encF)), v5]) (by
   unfold dueT
   rw [zcs]
   refine EvO.ev (zg7 (ds:=(fctF b gr f).map fun x => D.str x.2.2) ((zdj id ((fctF b gr f).map fun x => x.2.2)).map D.str) (zss (EvO.l (zhv (fctF b gr f) encF (fun x => D.str x.2.2) (zab rfl).l (zc4 (by decide)) (by decide) (by rw [sizeLine_eq]; omega) fun x hx => ⟨_, zbg, zd3 (zab rfl) zag.b rfl⟩)) (fun d hd => ?_) (by rw [List.length_map]; omega)) (fun d hd => ?_) (zkh (fun x : Fct => x.2.2) (fctF b gr f)) ?_ (by rw [List.length_map]; omega) fun d => ?_)
   ·obtain ⟨x, _, rfl⟩ := List.mem_map.mp hd; rfl
   ·obtain ⟨x, _, rfl⟩ := List.mem_map.mp hd; rfl
   ·have h1 := zep (f:=id) (xs:=(fctF b gr f).map fun x => x.2.2)
    rw [List.map_id] at h1
    unfold List.Nodup at *
    rw [List.pairwise_map]
    exact h1.imp fun h z => h (znw _ _ z)
   ·rw [<- et]
    constructor
    ·intro h
     obtain ⟨t, ht, rfl⟩ := List.mem_map.mp h
     exact List.mem_map_of_mem (ziu ht)
    ·intro h
     obtain ⟨t, ht, rfl⟩ := List.mem_map.mp h
     have := (zem (f:=id) (xs:=(fctF b gr f).map fun x => x.2.2) t).mpr ⟨t, ht, rfl⟩
     obtain ⟨y, hy, e⟩ := this
     have e : y = t := e
     rw [<- e]
     exact List.mem_map_of_mem hy) ⟨v5, by rw [List.take_zero, List.map_nil, List.append_nil]; rfl⟩ ?_ ?_
  ·rintro L2 q t ss hL2 hq ⟨v5, rfl⟩
   refine ⟨_, zbg, fun N2 hN2 => ?_⟩
   have hql : ((dueT b gr f).take q).length <= 60 := by have := zg2 b gr f; rw [List.length_take]; omega
   have hfc := List.length_filter_le (fun x : Fct => decide (x.2.2 = t)) (fctF b gr f)
   have ec : (((fctF b gr f).filter fun x => decide (x.2.2 = t)).map fun x => x.1).map D.str = ((fctF b gr f).filter fun x => decide (x.2.2 = t)).map fun x => D.str x.1 := by rw [List.map_map]; rfl
   refine zeh (d:=rwD (zf2 b gr f t)) rfl (zns (ds:=[.str f, .str t, .lst ((dueC b gr f t).map D.str)]) (zac (zab rfl) (zac (zab rfl) (zac (EvO.ev (by
    unfold dueC
    rw [zcs, ec]
    exact zci (EvO.l (zf6 (fctF b gr f) encF (fun x => decide (x.2.2 = t)) (fun x => D.str x.1) (zab rfl).l (zc4 (by decide)) (by decide) (by rw [sizeLine_eq]; omega) fun x hx => ⟨_, zbg, zba (ziz (Ev.b (zd3 (d:=.str x.2.2) (zab rfl) zag.b rfl)) (zab rfl).b), fun _ => zd3 (zab rfl) zag.b rfl⟩)) (zkh _ _) (by rw [List.length_map]; omega))) zan))) (small (by simp))) (hz (by rw [List.length_map, List.length_append, List.length_map]; omega)) (hN2 _ ⟨.d (.str t), ?_⟩)
   rw [List.take_add_one, hq, List.map_append (f:=zf2 b gr f), <- List.append_assoc, List.map_append (f:=rwD) (l₂:=List.map (zf2 b gr f) (some t).toList)]
   rfl
  ·rintro ss ⟨v5, rfl⟩
   rw [List.take_length]
   refine hN _ ⟨.d (.str f), .d (.lst ((fctF b gr f).map encF)), v5, ?_⟩
   rw [List.take_add_one, hk, List.flatMap_append]
   simp [dueF]
 ·rintro ss ⟨v3, v4, v5, rfl⟩
  ((try dsimp only); refine zaz ?_)
  exact zn2 (i:=2) rfl (zuy rt)
noncomputable def zt7 (ds : List D) : Prop := ∃ rows : List Rw, ds = [.lst (rows.map rwD), .lst (rows.map rwD)] /\ ∀ r ∈ rows, ∃ cl : List (List Nat), r.2.2 = cl.map D.str
theorem ztr {r : Rw} {cl : List (List Nat)} (h : r.2.2 = cl.map D.str) : (rwD r).nb = true := by
 unfold rwD
 rw [h]
 simp only [D.nb, D.nbs, Bool.true_and, Bool.and_true]
 exact zfy cl
theorem zsn {r : Rw} {cl : List (List Nat)} (h : r.2.2 = cl.map D.str) : (rwD r).dep <= 10 := by
 unfold rwD
 rw [h]
 have := D.deps_map (enc:=D.str) (n:=0) (fun _ => Nat.le_refl _) cl
 simp only [D.dep, D.deps]
 omega
theorem zs6 {rows : List Rw} (h : ∀ r ∈ rows, ∃ cl : List (List Nat), r.2.2 = cl.map D.str) : D.nbs (rows.map rwD) = true /\ D.deps (rows.map rwD) <= 10 := by
 induction rows with
 | nil => exact ⟨rfl, Nat.zero_le _⟩
 | cons r rs ih =>
  obtain ⟨h1, h2⟩ := ih fun x hx => h x (List.mem_cons_of_mem _ hx)
  obtain ⟨cl, hcl⟩ := h r List.mem_cons_self
  rw [List.map_cons]
  have a1 := ztr hcl
  have a2 := zsn hcl
  exact ⟨by simp only [D.nbs, a1, h1, Bool.and_self], by simp only [D.deps]; omega⟩
theorem zjv (Z : Tx K mg k_FIELDS f_texts_of f_cards_by_text f_texts_told f_law_cell_at f_law_stream f_law_cards f_law_text f_law_book f_law_due f_law_good f_law d_texts_of d_cards_by_text d_texts_told d_law_cell_at d_law_stream d_law_cards d_law_text d_law_book d_law_due d_law_good d_law) : FnOk P w K mg base CX0 1 f_law_good d_law_good ["_law_found", "_law_due_here"] (SpD K zt7 fun _ => .bl true) := by
 refine Z.F_law_good.ok zfw (fun vs H Q E h => zde (n:=2) (by rintro ds ⟨b, rfl, _⟩; rfl) h) (fun cdv A outer s H vs Q E hr h => ⟨_, (zae (zh2 (PW.pt (zr3 (zle (zkm (za1 (show zca _ _ (fun xs H Q => ∃ p ys, xs = [.ref p, .ty "list"] /\ SqL K H p ys /\ Q (.bl true) H) from zcg) (by rfl) Z.z_isinstance boot_isinstance (zaa (pv 0) (zaa (zi8 (v:=.ty "list") (by rfl) Z.z_list boot_list rfl) zai))))) (zog (zbq (show OpR _ _ (rNeD K) from zrk hr.units) (pv 0) (pv 1) (zc8 _))))) (zao (zb3 znp)) zdm)
   (zae (zck PassesOwn.never rfl (zbf (pv 0)) (zax (i:=2) zfw.nd rfl (Or.inl rfl)) (zao (zh2 (PW.pt (zr3 (zle (zkm (za1 (show zca _ _ (fun xs H Q => ∃ p ys, xs = [.ref p, .ty "tuple"] /\ SqT K H p ys /\ Q (.bl true) H) from zeq) (by rfl) Z.z_isinstance boot_isinstance (zaa (pv 2) (zaa (zi8 (v:=.ty "tuple") (by rfl) Z.z_tuple boot_tuple rfl) zai))))) (zog (zle (zkm (za1 (show zca _ _ (fun xs H Q => ∃ p ys, xs = [.ref p, .ty "list"] /\ SqL K H p ys /\ Q (.bl true) H) from zcg) (by rfl) Z.z_isinstance boot_isinstance (zaa (zbn (show IxR _ (rIxT K) from zdh) (pv 2) zaf (fun _ _ => rfl)) (zaa (zi8 (v:=.ty "list") (by rfl) Z.z_list boot_list rfl) zai)))))))) (zao (zb3 znp)) zdm)))
   (zao (zb3 znp)))), ?_⟩)
 refine zke h (by rw [zde (n:=2) (by rintro ds ⟨b, rfl, _⟩; rfl) h]; decide) fun G ds hp rt => ?_
 obtain ⟨rows, rfl, hr⟩ := hp
 obtain ⟨h1, h2⟩ := zs6 hr
 have nb : (D.lst (rows.map rwD)).nb = true := by rw [D.nb_lst]; exact h1
 have dp : (D.lst (rows.map rwD)).dep <= 60 := by rw [D.dep_lst]; omega
 refine zam (zic (b:=(!true || !decide (D.lst (rows.map rwD) = .lst (rows.map rwD)))) (znf (zhn (zpi (zrm (zab rfl).l))) fun _ => zba (zri (zab rfl).b (zab rfl).b nb nb dp)) (fun hb => by simp at hb) (fun _ => zdb ?_))
 ((try dsimp only); refine zaz ?_)
 refine zam (zfv rwD rows (fun k ss => ∃ v2 : Sl, ss = [.d (.lst (rows.map rwD)), .d (.lst (rows.map rwD)), v2]) (zab rfl) ⟨.un, rfl⟩ ?_ ?_)
 ·rintro L' k r ss hL hk ⟨v2, rfl⟩
  refine ⟨_, zbg, fun N hN => ?_⟩
  exact zic (b:=(!true || !true)) (znf (zhn (zpi (zt8 (ds:=[.str r.1, .str r.2.1, .lst r.2.2]) (zab rfl).b))) fun _ => zhn (zpi (zrm (Ev.l (ds:=r.2.2) (zd3 (d:=.lst r.2.2) (zab rfl) zag.b rfl))))) (fun hb => by simp at hb) (fun _ => zdb (hN _ ⟨_, rfl⟩))
 ·rintro ss ⟨v2, rfl⟩
  ((try dsimp only); refine zaz ?_)
  exact zgn zti rt
theorem znd (c m : Int) : (cardsL c m).length = m.toNat := by unfold cardsL; simp
theorem zsw (x y : Int) (h : zd2 x = zd2 y) : x % 26 = y % 26 := by
 have hn : lets.Nodup := by decide +kernel
 have h1 := Int.emod_nonneg x (show (26 : Int) ≠ 0 by decide)
 have h2 := Int.emod_lt_of_pos x (show (0 : Int) < 26 by decide)
 have h3 := Int.emod_nonneg y (show (26 : Int) ≠ 0 by decide)
 have h4 := Int.emod_lt_of_pos y (show (0 : Int) < 26 by decide)
 have hl := zfq
 unfold zd2 at h
 rw [List.getD_eq_getElem?_getD, List.getD_eq_getElem?_getD, List.getElem?_eq_getElem (by omega), List.getElem?_eq_getElem (by omega)] at h
 have := (List.getElem_inj hn).mp h
 omega
theorem zpr (c : Int) {i j : Nat} (hi : i < 26) (hj : j < 26) (h : zjk c i = zjk c j) : i = j := by
 unfold zjk at h
 rw [List.append_assoc, List.append_assoc] at h
 have h2 := List.append_cancel_left h
 injection h2 with h3 _
 have := zsw _ _ h3
 omega
theorem zoj (c m : Int) (h0 : 0 <= m) (h : m <= 26) : (cardsL c m).Nodup := by
 unfold cardsL List.Nodup
 rw [List.pairwise_map]
 refine List.Pairwise.imp_of_mem ?_ (List.nodup_range (n:=m.toNat))
 intro i j hi hj hne e
 rw [List.mem_range] at hi hj
 exact hne (zpr c (by omega) (by omega) e)
noncomputable def w6 : List Int := [1, 2, 4, 8, 16, 32]
theorem zu5 {k : Nat} (h : k < 6) : atI (w6.map D.int) (k : Int) = some (.int (w6.getD k 0)) /\ 0 < w6.getD k 0 /\ w6.getD k 0 < 40 := by
 have : k = 0 \/ k = 1 \/ k = 2 \/ k = 3 \/ k = 4 \/ k = 5 := by omega
 rcases this with rfl | rfl | rfl | rfl | rfl | rfl <;> exact ⟨rfl, by decide, by decide⟩
theorem zqa {cs : List (List Nat)} (hn : cs.Nodup) (q : Nat -> Bool) : (((List.range cs.length).filter q).map fun k => cs.getD k []).Nodup := by
 unfold List.Nodup at *
 rw [List.pairwise_map]
 refine List.Pairwise.imp_of_mem ?_ ((List.nodup_range (n:=cs.length)).sublist List.filter_sublist)
 intro i j hi hj hne e
 have hi := List.mem_range.mp (List.mem_filter.mp hi).1
 have hj := List.mem_range.mp (List.mem_filter.mp hj).1
 rw [List.getD_eq_getElem?_getD, List.getD_eq_getElem?_getD, List.getElem?_eq_getElem hi, List.getElem?_eq_getElem hj] at e
 exact hne ((List.getElem_inj hn).mp e)
theorem zku (ns : List Int) (k : Int) : ∃ i, zdi [.lst (ns.map .int), .int k] = .int i := by
 show ∃ i, (ns.map D.int).getD k.toNat (.int 0) = .int i
 rw [List.getD_eq_getElem?_getD, List.getElem?_map]
 cases ns[k.toNat]? <;> exact ⟨_, rfl⟩
theorem ztn {b : List Fct} {gr : List (List Nat)} : ∀ r ∈ flds.flatMap (dueF b gr), ∃ cl : List (List Nat), r.2.2 = cl.map D.str := fun r hr => by
 obtain ⟨f, _, h⟩ := List.mem_flatMap.mp hr
 obtain ⟨t, _, rfl⟩ := List.mem_map.mp h
 exact ⟨_, rfl⟩
theorem ztp (Z : Tx K mg k_FIELDS f_texts_of f_cards_by_text f_texts_told f_law_cell_at f_law_stream f_law_cards f_law_text f_law_book f_law_due f_law_good f_law d_texts_of d_cards_by_text d_texts_told d_law_cell_at d_law_stream d_law_cards d_law_text d_law_book d_law_due d_law_good d_law) : FnOk P w K mg base CX0 21 f_law d_law ["_law_script"] (zpy K) := by
 have G_law_cell_at := zgg (P:=P) (w:=w) (base:=base) Z
 have G_law_cards := zi3 (P:=P) (w:=w) (base:=base) Z
 have G_law_book := zi4 (P:=P) (w:=w) (base:=base) Z
 have G_law_due := zl3 (P:=P) (w:=w) (base:=base) Z
 have G_law_good := zjv (P:=P) (w:=w) (base:=base) Z
 have G_texts_told := zhz (P:=P) (w:=w) (base:=base) Z
 refine Z.F_law.ok zch (fun vs H Q E h => by obtain ⟨a, ns, rfl, _⟩ := h; rfl) (fun cdv A outer s H vs Q E hr h => ⟨_, (zae (zaw (i:=1) zch.nd rfl (Or.inl rfl) (zbx G_law_cell_at (hr.mono (by decide)) (by rfl) Z.M_law_cell_at Z.F_law_cell_at.kp Z.B_law_cell_at .nil zes (zaa (pv 0) (zaa zaf zai))))
   (zae (zaw (i:=2) zch.nd rfl (Or.inr rfl) (zbx G_law_cell_at (hr.mono (by decide)) (by rfl) Z.M_law_cell_at Z.F_law_cell_at.kp Z.B_law_cell_at .nil zes (zaa (pv 0) (zaa zaf zai))))
   (zae (zaw (i:=3) zch.nd rfl (Or.inr rfl) (zbx G_law_cards (hr.mono (by decide)) (by rfl) Z.M_law_cards Z.F_law_cards.kp Z.B_law_cards .nil zes (zaa (za6 zd5 (pv 1) zaf) (zaa (za6 zc5 zaf (za6 zbv (pv 1) zaf)) zai))))
   (zae (zaw (i:=4) zch.nd rfl (Or.inr rfl) (zbx G_law_book (hr.mono (by decide)) (by rfl) Z.M_law_book Z.F_law_book.kp Z.B_law_book .nil zes (zaa (zc2 zfz (pv 0) (zc0 zaf) (zc0 zaf)) (zaa (pv 3) (zaa (pv 2) zai)))))
   (zae (zaw (i:=3) zch.nd rfl (Or.inr rfl) (zju rfl (LcOk.of (Nx:=(["_law_script", "_law_first", "_law_cell", "_law_cards_here", "_law_book_here", "_law_some", "_law_start", "_law_group", "_law_due_here", "_law_handed", "_law_again", "_law_found", "_law_row"] : List Str)) (sc:=zad zfd) (N':=(["_law_card", "_law_book_here"] : List Str)) (nt:=1) (cs:=[4]) rfl rfl (by decide +kernel)) (zbf (pv 3)) (fun s1 H1 C1 fp1 => (zax (i:=0) (show List.Nodup (["_law_card", "_law_book_here"] : List Str) by decide +kernel) rfl (Or.inl rfl))) (fun s1 H1 C1 fp1 => (zel (zbq (show OpR _ _ (rInD K false) from zq6 hr.units) (pv 0) (zju rfl (LcOk.of (Nx:=(["_law_card", "_law_book_here"] : List Str)) (sc:=({ kind := .function, names := [(".0", .local), ("_law_card", .local), ("_law_book_here", .cell)], isGenerator := false, isCoroutine := false } : Scope)) (N':=(["_law_fact"] : List Str)) (nt:=1) (cs:=[]) rfl rfl (by decide +kernel)) (show PI _ _ _ (zh8 K _) from zbf (pv (X:=lcCx (cxOf CX0 P w K mg base (["_law_script", "_law_first", "_law_cell", "_law_cards_here", "_law_book_here", "_law_some", "_law_start", "_law_group", "_law_due_here", "_law_handed", "_law_again", "_law_found", "_law_row"] : List Str) "law" (zad zfd) f_law cdv A outer s H E).nox (["_law_card", "_law_book_here"] : List Str) ({ kind := .function, names := [(".0", .local), ("_law_card", .local), ("_law_book_here", .free)], isGenerator := false, isCoroutine := false } : Scope) s1 H1 C1 fp1) 1)) (fun _ _ _ _ => (zax (i:=0) (show List.Nodup (["_law_fact"] : List Str) by decide +kernel) rfl (Or.inl rfl))) (fun _ _ _ _ => zfn) (fun _ _ _ _ => (zbn (show IxR _ (rIxT K) from zdh) (pv 0) zaf (fun _ _ => rfl)))) (by with_unfolding_all rfl)))) (fun s1 H1 C1 fp1 => (pv 0))))
   (zae (zlp (i:=5) zch.nd rfl (Or.inl rfl) rfl (LcOk.of (Nx:=(["_law_script", "_law_first", "_law_cell", "_law_cards_here", "_law_book_here", "_law_some", "_law_start", "_law_group", "_law_due_here", "_law_handed", "_law_again", "_law_found", "_law_row"] : List Str)) (sc:=zad zfd) (N':=(["_law_k", "_law_cell", "_law_cards_here"] : List Str)) (nt:=1) (cs:=[2, 3]) rfl rfl (by decide +kernel)) (zed (by rfl) Z.z_range (zaa (za1 zb0 (by rfl) Z.z_len boot_len (zaa (pv 3) zai)) zai)) (fun _ _ _ _ => (zax (i:=0) (show List.Nodup (["_law_k", "_law_cell", "_law_cards_here"] : List Str) by decide +kernel) rfl (Or.inl rfl))) (fun _ _ _ _ => (zel (zbq zih (za6 zbv (za6 zd5 (pv 1) (zbn (show IxR _ (rIxL K) from zbb) (zcp (zaa zaf (zaa zaf (zaa zaf (zaa zaf (zaa zaf (zaa zaf zai))))))) (pv 0) (fun _ _ => rfl))) zaf) zaf (zc8 _)))) (fun _ _ _ _ => (zbn (show IxR _ (rIxL K) from zbb) (pv 2) (pv 0) (fun _ _ => rfl))))
   (zae (zaw (i:=6) zch.nd rfl (Or.inl rfl) (za6 zbv (za6 zd5 (pv 2) zaf) (za1 (zn4 rfl) (by rfl) Z.z_max boot_max (zaa zaf (zaa (za1 zb0 (by rfl) Z.z_len boot_len (zaa (pv 5) zai)) zai)))))
   (zae (zck PassesOwn.never rfl (zbf (zcp (zaa (za6 (show OpR _ _ (zsd K) from zs9) (zc2 zfz (pv 5) (zc0 (pv 6)) zgb) (zc2 zfz (pv 5) zgb (zc0 (pv 6)))) (zaa (pv 3) (zaa (zlv rfl (by rfl) Z.z_list (by rfl) Z.z_reversed (zaa (pv 5) zai)) zai))))) (zax (i:=7) zch.nd rfl (Or.inl rfl)) (zae (zaw (i:=8) zch.nd rfl (Or.inl rfl) (zbx G_law_due (hr.mono (by decide)) (by rfl) Z.M_law_due Z.F_law_due.kp Z.B_law_due .nil zes (zaa (pv 4) (zaa (pv 7) zai))))
   (zae (zaw (i:=9) zch.nd rfl (Or.inl rfl) (zcp (zaa (zf0 zfa (by rfl) Z.z_list boot_list (zaa (pv 4) zai)) (zaa (zf0 zfa (by rfl) Z.z_list boot_list (zaa (pv 7) zai)) zai))))
   (zao (zck PassesOwn.never rfl (zed (by rfl) Z.z_range (zaa zaf zai)) (zax (i:=10) zch.nd rfl (Or.inl rfl)) (zae (zaw (i:=11) zch.nd rfl (Or.inl rfl) (zbx G_texts_told (hr.mono (by decide)) (by rfl) Z.M_texts_told Z.F_texts_told.kp Z.B_texts_told .nil zes (zaa (zbn (show IxR _ (rIxL K) from zbb) (pv 9) zaf (fun _ _ => rfl)) (zaa (zbn (show IxR _ (rIxL K) from zbb) (pv 9) zaf (fun _ _ => rfl)) zai))))
   (zae (zh2 (PW.pt (zr3 (zle (zkm (zbx G_law_good (hr.mono (by decide)) (by rfl) Z.M_law_good Z.F_law_good.kp Z.B_law_good .nil zes (zaa (pv 11) (zaa (pv 8) zai))))) (zog (zbq (show OpR _ _ (rNeD K) from zrk hr.units) (pv 9) (zcp (zaa (pv 4) (zaa (pv 7) zai))) (zc8 _))))) (zao (zb3 znp)) zdm)
   (zae (zck PassesOwn.never rfl (zbf (pv 11)) (zax (i:=12) zch.nd rfl (Or.inl rfl)) (zao (zdc (zko F.plainAttrs_list F.slot_list_clear F.type_list_clear zlb (zbn (show IxR _ (rIxT K) from zdh) (pv 12) zaf (fun _ _ => rfl))))))
   (zao (zdc (zko F.plainAttrs_list F.slot_list_clear F.type_list_clear zlb (pv 11))))))))))))
   (zao (zb3 znp)))))))))), ?_⟩)
 obtain ⟨a, ns, rfl, sq, hl, hQ⟩ := h
 have r : Reps K H [.lst (ns.map .int)] [.ref a] := Reps.cons (Rep.lst sq (zib ns)) Reps.nil
 have rt : RtD K H H Q (.bl true) := fun v F H' e r => by rw [r.of_bl]; exact hQ H'
 refine (?_ : Go K H H H _ (slots 13 [.lst (ns.map .int)]) _) H H _ (zcq (Same.refl H) r (by simp))
 obtain ⟨i0, ei0⟩ := zku ns 0
 obtain ⟨i1, ei1⟩ := zku ns 1
 refine zam (zbo (d:=.int i0) (by rw [<- ei0]; exact zg6 (pre:=zjj) (res:=zdi) (zac (zab rfl) (zac zag zan)) ⟨ns, 0, rfl, by omega⟩) ?_)
 ((try dsimp only); refine zaz ?_)
 refine zam (zbo (d:=.int i1) (by rw [<- ei1]; exact zg6 (pre:=zjj) (res:=zdi) (zac (zab rfl) (zac zag zan)) ⟨ns, 1, rfl, by omega⟩) ?_)
 ((try dsimp only); refine zaz ?_)
 refine zam (zcz (ds:=(cardsL (i0 / 6) (1 + i0 % 6)).map .str) (zeg (pre:=zlm) (res:=zhr) (zac (zd4 (zab rfl).b zag.b ⟨by decide, by decide⟩) (zac (zc7 zag.b (zb1 (zab rfl).b zag.b (by decide)).b) zan)) ⟨i0 / 6, 1 + i0 % 6, rfl, by omega, by omega⟩) fun pc => zds (i:=3) rfl ?_)
 ((try dsimp only); refine zaz ?_)
 have hcl := znd (i0 / 6) (1 + i0 % 6)
 have hcn := zoj (i0 / 6) (1 + i0 % 6) (by omega) (by omega)
 generalize cardsL (i0 / 6) (1 + i0 % 6) = cs0 at hcl hcn
 have hc0 : cs0 ≠ [] := fun z => by rw [z, List.length_nil] at hcl; omega
 generalize hxs : (ns.drop 2).take 60 = xs
 have hxl : xs.length <= 60 := by rw [<- hxs]; simp; omega
 have exs : cutD (ns.map D.int) (some 2) (some 62) = xs.map D.int := by
  rw [zkq _ (by decide) (by decide), <- hxs, List.map_take, List.map_drop]; rfl
 refine zam (zsj (i:=4) (pre:=zm9) (R:=zoh) (ds:=[.lst (xs.map .int), grD cs0, .int i1]) (zac (by rw [<- exs]; exact (zf1 (zab rfl).l (zb5 zag.b) (zb5 zag.b)).ev) (zac (zab rfl) (zac (zab rfl) zan))) ⟨xs, cs0, i1, rfl, hxl, hc0⟩ fun rs hR pb => zds (i:=4) rfl ?_)
 obtain ⟨b, rfl, hb, hbl⟩ := hR
 ((try dsimp only); refine zaz ?_)
 refine zam (zbo (d:=grD (cs0.filter fun c => decide (D.str c ∈ b.map fun x => D.str x.1))) (EvO.ev (zf6 cs0 D.str (fun c => decide (D.str c ∈ b.map fun x => D.str x.1)) D.str (zab rfl).l (zc4 (by decide)) (by decide) (by rw [sizeLine_eq]; omega) fun c hc => ⟨_, zbg, zba (zq5 (zab rfl).b (EvO.ev (zhv b encF (fun x => D.str x.1) (zab rfl).l (zc4 (by decide)) (by decide) (by rw [sizeLine_eq]; omega) fun x hx => ⟨_, zbg, zd3 (zab rfl) zag.b rfl⟩)).b rfl (by
  have e : (b.map fun x => D.str x.1) = (b.map fun x => x.1).map D.str := by rw [List.map_map]; rfl
  rw [e]; exact zfy _) (by show 0 <= 60; decide)), fun _ => zab rfl⟩)) ?_)
 ((try dsimp only); refine zaz ?_)
 have hcsl := List.length_filter_le (fun c => decide (D.str c ∈ b.map fun x => D.str x.1)) cs0
 have hcsn : (cs0.filter fun c => decide (D.str c ∈ b.map fun x => D.str x.1)).Nodup := hcn.sublist List.filter_sublist
 generalize cs0.filter (fun c => decide (D.str c ∈ b.map fun x => D.str x.1)) = cs at hcsl hcsn
 have hcs6 : cs.length <= 6 := by omega
 have hlm : ((cs.map D.str).length : Int) = cs.length := by simp
 let sm : List (List Nat) := ((List.range cs.length).filter fun k => decide (i1 / w6.getD k 0 % 2 = 1)).map fun k => cs.getD k []
 have hsl : sm.length <= 6 := by
  show (((List.range cs.length).filter _).map _).length <= 6
  rw [List.length_map]
  have := List.length_filter_le (fun k => decide (i1 / w6.getD k 0 % 2 = 1)) (List.range cs.length)
  rw [List.length_range] at this
  omega
 have hsn : sm.Nodup := zqa hcsn _
 refine zam (zcz (ds:=sm.map .str) (by
  show EvO _ _ _ _ _ _ ((((List.range cs.length).filter fun k => decide (i1 / w6.getD k 0 % 2 = 1)).map fun k => cs.getD k []).map D.str)
  rw [List.map_map]
  refine zj7 (n:=((cs.length : Nat) : Int).toNat) (fun k => decide (i1 / w6.getD k 0 % 2 = 1)) (fun k => D.str (cs.getD k [])) (zo8 (n:=cs.length) (zfj (Ev.b (by rw [<- hlm]; exact zgz (zab rfl).l)) zhl) ⟨by omega, by omega⟩) (zc4 (by decide)) (by decide) (by rw [sizeLine_eq]; omega) fun k hk => ?_
  have hk : k < cs.length := by omega
  obtain ⟨w1, w2, w3⟩ := zu5 (show k < 6 by omega)
  refine ⟨_, zbg, zba (znv (zb1 (zd4 (zab rfl).b (zbw (ds:=w6.map D.int) (EvO.l (zcd (zac zag (zac zag (zac zag (zac zag (zac zag (zac zag zan)))))) (small (by decide)))) (zab rfl).b w1).b ⟨by omega, by omega⟩).b zag.b (by decide)).b zag.b), fun _ => zbw (zab rfl).l (zab rfl).b (ze0 (by rw [List.getElem?_map, List.getElem?_eq_getElem hk, List.getD_eq_getElem?_getD, List.getElem?_eq_getElem hk]; rfl))⟩) fun pg => zds (i:=5) rfl ?_)
 ((try dsimp only); refine zaz ?_)
 generalize sm = sm' at hsl hsn
 have hsm : ((sm'.map D.str).length : Int) = sm'.length := by simp
 obtain ⟨m, hm⟩ : ∃ m : Int, (if ((sm'.map D.str).length : Int) > 1 then ((sm'.map D.str).length : Int) else 1) = m := ⟨_, rfl⟩
 have hm1 : 0 < m := by rw [<- hm]; split <;> omega
 obtain ⟨st, hst⟩ : ∃ st : Nat, i1 / 64 % m = (st : Int) := ⟨(i1 / 64 % m).toNat, by have := Int.emod_nonneg (i1 / 64) (show m ≠ 0 by omega); omega⟩
 refine zam (zbo (d:=.int (st : Int)) (by
  rw [<- hst, <- hm]
  exact zb1 (zd4 (zab rfl).b zag.b ⟨by decide, by decide⟩).b (zrr zag.b (zgz (zab rfl).l).b).b (by rw [hm]; exact hm1)) ?_)
 ((try dsimp only); refine zaz ?_)
 let g1 : List (List Nat) := sm'.drop st ++ sm'.take st
 have hg1l : g1.length <= 6 := by show (sm'.drop st ++ sm'.take st).length <= 6; rw [List.length_append, List.length_drop, List.length_take]; omega
 have hg1n : g1.Nodup := by
  have hp : g1.Perm sm' := by
   show (sm'.drop st ++ sm'.take st).Perm sm'
   have := List.perm_append_comm (l₁:=sm'.drop st) (l₂:=sm'.take st)
   rwa [List.take_append_drop] at this
  exact hp.nodup_iff.mpr hsn
 have hg3n : sm'.reverse.Nodup := (List.reverse_perm sm').nodup_iff.mpr hsn
 have eg1 : cutD (sm'.map D.str) (some (st : Int)) none ++ cutD (sm'.map D.str) none (some (st : Int)) = g1.map D.str := by
  show _ = (sm'.drop st ++ sm'.take st).map D.str
  rw [zfx _ (by omega), zoi _ (by omega), Int.toNat_natCast, <- List.map_drop, <- List.map_take, List.map_append]
 have hall : ∀ g ∈ [g1, cs, sm'.reverse], g.length <= 6 /\ g.Nodup := fun g hg => by
  simp only [List.mem_cons, List.not_mem_nil, or_false] at hg
  rcases hg with rfl | rfl | rfl
  ·exact ⟨hg1l, hg1n⟩
  ·exact ⟨hcs6, hcsn⟩
  ·exact ⟨by rw [List.length_reverse]; exact hsl, hg3n⟩
 refine zam (zfv grD [g1, cs, sm'.reverse] (fun k ss => ∃ v7 v8 v9 v10 v11 v12 : Sl, ss = [.d (.lst (ns.map .int)), .d (.int i0), .d (.int i1), .d (grD cs), .d (bkD b), .d (grD sm'), .d (.int (st : Int)), v7, v8, v9, v10, v11, v12]) (EvO.ev (zcd (ds:=[grD g1, grD cs, grD sm'.reverse]) (zac (EvO.ev (ds:=g1.map D.str) (by
  rw [<- eg1]
  exact zsx (EvO.l (zf1 (zab rfl).l (zb5 (zab rfl).b) zh6)) (EvO.l (zf1 (zab rfl).l zh6 (zb5 (zab rfl).b))) (by rw [zfx _ (by omega), zoi _ (by omega), List.length_drop, List.length_take, List.length_map, sizeLine_eq]; omega))) (zac (zab rfl) (zac (EvO.ev (ds:=sm'.reverse.map D.str) (by rw [List.map_reverse]; exact zja (zab rfl).l)) zan))) (small (by simp)))) ⟨.un, .un, .un, .un, .un, .un, rfl⟩ ?_ ?_)
 ·rintro L' k gr ss hL hk ⟨v7, v8, v9, v10, v11, v12, rfl⟩
  refine ⟨_, zbg, fun N hN => ?_⟩
  obtain ⟨hgl, hgn⟩ := hall gr (List.mem_of_getElem? hk)
  have pT : zor [bkD b, grD gr] := ⟨b, gr, rfl, hbl, hgl⟩
  have eT := ziw b gr
  have eD := zgp b gr
  have erd : flds.flatMap (zej b gr) = flds.flatMap (dueF b gr) := by
   have : zej b gr = dueF b gr := funext fun f => zqe hb.1 hgn f
   rw [this]
  rw [erd] at eT
  have hcl2 := ztn (b:=b) (gr:=gr)
  generalize flds.flatMap (dueF b gr) = rows at eT eD hcl2
  refine zam (zbo (d:=.lst (rows.map rwD)) (by rw [<- eD]; exact zg6 (pre:=zor) (res:=zo1) (zac (zab rfl) (zac (zab rfl) zan)) pT) ?_)
  ((try dsimp only); refine zaz ?_)
  refine zam (zbo (d:=.lst [bkD b, grD gr]) (EvO.ev (zcd (zac (EvO.ev (zlh (zab rfl).l)) (zac (EvO.ev (zlh (Ev.l (ds:=gr.map .str) (zab rfl)))) zan)) (small (by simp)))) ?_)
  ((try dsimp only); refine zaz ?_)
  have nbG : (grD gr).nb = true := by show (D.lst (gr.map .str)).nb = true; rw [D.nb_lst]; exact zfy _
  have dpG : (grD gr).dep <= 2 := by show (D.lst (gr.map .str)).dep <= 2; rw [D.dep_lst]; have := D.deps_map (enc:=D.str) (n:=0) (fun _ => Nat.le_refl _) gr; omega
  have nbH : (D.lst [bkD b, grD gr]).nb = true := by rw [D.nb_lst]; simp [D.nbs, ztu, nbG]
  have dpH : (D.lst [bkD b, grD gr]).dep <= 60 := by rw [D.dep_lst]; simp only [D.deps]; have := zr8 b; omega
  refine zhc (n:=2) (fun q ss => ∃ v10 v11 v12 : Sl, ss = [.d (.lst (ns.map .int)), .d (.int i0), .d (.int i1), .d (grD cs), .d (bkD b), .d (grD sm'), .d (.int (st : Int)), .d (grD gr), .d (.lst (rows.map rwD)), .d (.lst [bkD b, grD gr]), v10, v11, v12]) (zfj zag.b zhl) ⟨by decide, by decide⟩ ⟨_, _, _, rfl⟩ ?_ ?_ (fun _ _ _ h => h)
  ·rintro q ss hq ⟨v10, v11, v12, rfl⟩ N2 hN2
   refine zam (zta (i:=11) (pre:=zor) (res:=zsv) (ds:=[bkD b, grD gr]) (zac (zbw (zab rfl).l zag.b rfl) (zac (zbw (zab rfl).l zag.b rfl) zan)) pT (by rw [eT]; exact hcl2) fun p as => ?_)
   ((try dsimp only); refine zaz ?_)
   rw [eT]
   refine zam (zic (b:=(!true || !decide (D.lst [bkD b, grD gr] = .lst [bkD b, grD gr]))) (znf (zhn (zpi (zn7 (i:=11) (j:=8) (pre:=zt7) (resB:=fun _ => .bl true) rfl rfl ⟨rows, rfl, hcl2⟩ rfl))) fun _ => zba (zri (zab rfl).b (EvO.ev (zcd (zac (zab rfl) (zac (zab rfl) zan)) (small (by simp)))).b nbH nbH dpH)) (fun hb => by simp at hb) (fun _ => zdb ?_))
   ((try dsimp only); refine zaz ?_)
   refine zam (zjg (i:=11) (j:=12) rfl (by decide) (by show 12 < 13; decide) ?_)
   ((try dsimp only); refine zaz ?_)
   exact zou (i:=11) rfl (hN2 _ ⟨_, _, _, rfl⟩)
  ·rintro ss ⟨v10, v11, v12, rfl⟩
   exact hN _ ⟨_, _, _, _, _, _, rfl⟩
 ·rintro ss ⟨v7, v8, v9, v10, v11, v12, rfl⟩
  ((try dsimp only); refine zaz ?_)
  exact zgn zti rt
end
theorem zrj {α : Type} {P : List α -> Prop} {us : List α} (hl : us.length = 1) (h : ∀ a0, P [a0]) : P us := match us, hl with
 | [a0], _ => h a0
theorem zgu {α : Type} {P : List α -> Prop} {us : List α} (hl : us.length = 2) (h : ∀ a0 a1, P [a0, a1]) : P us := match us, hl with
 | [a0, a1], _ => h a0 a1
theorem zmf {α : Type} {P : List α -> Prop} {us : List α} (hl : us.length = 3) (h : ∀ a0 a1 a2, P [a0, a1, a2]) : P us := match us, hl with
 | [a0, a1, a2], _ => h a0 a1 a2
theorem zi5 (kV doc pm : Value) (an : Option Addr) (cdv ct : Value) (us : List Value) (hl : us.length = (["book", "card", "field"] : List Str).length) : bindArgs (PySem.W.fnOf "texts_of" "texts_of" (zas zbe) (zaq zbe) (zad zbe) .none kV doc pm an cdv ct) ⟨us, []⟩ = pure ((["book", "card", "field"] : List Str).zip us) :=
 zmf (P:=fun us => bindArgs _ ⟨us, []⟩ = pure (List.zip _ us)) hl fun _ _ _ => rfl
theorem zfe (kV doc pm : Value) (an : Option Addr) (cdv ct : Value) (us : List Value) (hl : us.length = (["book", "group", "field"] : List Str).length) : bindArgs (PySem.W.fnOf "cards_by_text" "cards_by_text" (zas zap) (zaq zap) (zad zap) .none kV doc pm an cdv ct) ⟨us, []⟩ = pure ((["book", "group", "field"] : List Str).zip us) :=
 zmf (P:=fun us => bindArgs _ ⟨us, []⟩ = pure (List.zip _ us)) hl fun _ _ _ => rfl
theorem zhx (kV doc pm : Value) (an : Option Addr) (cdv ct : Value) (us : List Value) (hl : us.length = (["book", "group"] : List Str).length) : bindArgs (PySem.W.fnOf "texts_told" "texts_told" (zas za3) (zaq za3) (zad za3) .none kV doc pm an cdv ct) ⟨us, []⟩ = pure ((["book", "group"] : List Str).zip us) :=
 zgu (P:=fun us => bindArgs _ ⟨us, []⟩ = pure (List.zip _ us)) hl fun _ _ => rfl
theorem zge (kV doc pm : Value) (an : Option Addr) (cdv ct : Value) (us : List Value) (hl : us.length = (["_law_script", "_law_k"] : List Str).length) : bindArgs (PySem.W.fnOf "_law_cell_at" "_law_cell_at" (zas zau) (zaq zau) (zad zau) .none kV doc pm an cdv ct) ⟨us, []⟩ = pure ((["_law_script", "_law_k"] : List Str).zip us) :=
 zgu (P:=fun us => bindArgs _ ⟨us, []⟩ = pure (List.zip _ us)) hl fun _ _ => rfl
theorem zg0 (kV doc pm : Value) (an : Option Addr) (cdv ct : Value) (us : List Value) (hl : us.length = (["_law_cell", "_law_many"] : List Str).length) : bindArgs (PySem.W.fnOf "_law_stream" "_law_stream" (zas za0) (zaq za0) (zad za0) .none kV doc pm an cdv ct) ⟨us, []⟩ = pure ((["_law_cell", "_law_many"] : List Str).zip us) :=
 zgu (P:=fun us => bindArgs _ ⟨us, []⟩ = pure (List.zip _ us)) hl fun _ _ => rfl
theorem zie (kV doc pm : Value) (an : Option Addr) (cdv ct : Value) (us : List Value) (hl : us.length = (["_law_cell", "_law_many"] : List Str).length) : bindArgs (PySem.W.fnOf "_law_cards" "_law_cards" (zas za5) (zaq za5) (zad za5) .none kV doc pm an cdv ct) ⟨us, []⟩ = pure ((["_law_cell", "_law_many"] : List Str).zip us) :=
 zgu (P:=fun us => bindArgs _ ⟨us, []⟩ = pure (List.zip _ us)) hl fun _ _ => rfl
theorem zj3 (kV doc pm : Value) (an : Option Addr) (cdv ct : Value) (us : List Value) (hl : us.length = (["_law_cell"] : List Str).length) : bindArgs (PySem.W.fnOf "_law_text" "_law_text" (zas zbd) (zaq zbd) (zad zbd) .none kV doc pm an cdv ct) ⟨us, []⟩ = pure ((["_law_cell"] : List Str).zip us) :=
 zrj (P:=fun us => bindArgs _ ⟨us, []⟩ = pure (List.zip _ us)) hl fun _ => rfl
theorem zjl (kV doc pm : Value) (an : Option Addr) (cdv ct : Value) (us : List Value) (hl : us.length = (["_law_cells", "_law_cards_here", "_law_cell"] : List Str).length) : bindArgs (PySem.W.fnOf "_law_book" "_law_book" (zas zbm) (zaq zbm) (zad zbm) .none kV doc pm an cdv ct) ⟨us, []⟩ = pure ((["_law_cells", "_law_cards_here", "_law_cell"] : List Str).zip us) :=
 zmf (P:=fun us => bindArgs _ ⟨us, []⟩ = pure (List.zip _ us)) hl fun _ _ _ => rfl
theorem zl7 (kV doc pm : Value) (an : Option Addr) (cdv ct : Value) (us : List Value) (hl : us.length = (["_law_book_here", "_law_group"] : List Str).length) : bindArgs (PySem.W.fnOf "_law_due" "_law_due" (zas zbc) (zaq zbc) (zad zbc) .none kV doc pm an cdv ct) ⟨us, []⟩ = pure ((["_law_book_here", "_law_group"] : List Str).zip us) :=
 zgu (P:=fun us => bindArgs _ ⟨us, []⟩ = pure (List.zip _ us)) hl fun _ _ => rfl
theorem zi7 (kV doc pm : Value) (an : Option Addr) (cdv ct : Value) (us : List Value) (hl : us.length = (["_law_found", "_law_due_here"] : List Str).length) : bindArgs (PySem.W.fnOf "_law_good" "_law_good" (zas zbj) (zaq zbj) (zad zbj) .none kV doc pm an cdv ct) ⟨us, []⟩ = pure ((["_law_found", "_law_due_here"] : List Str).zip us) :=
 zgu (P:=fun us => bindArgs _ ⟨us, []⟩ = pure (List.zip _ us)) hl fun _ _ => rfl
theorem zt3 (kV doc pm : Value) (an : Option Addr) (cdv ct : Value) (us : List Value) (hl : us.length = (["_law_script"] : List Str).length) : bindArgs (PySem.W.fnOf "law" "law" (zas zfd) (zaq zfd) (zad zfd) .none kV doc pm an cdv ct) ⟨us, []⟩ = pure ((["_law_script"] : List Str).zip us) :=
 zrj (P:=fun us => bindArgs _ ⟨us, []⟩ = pure (List.zip _ us)) hl fun _ => rfl
theorem all_mk {l : PySem.W.OpenLaw} {w : World} {K : PySem.W.Frag} {h : Heap} {mg : Str -> Option Value} {fa g0 g1 g2 g3 g4 g5 g6 g7 g8 g9 g10 : Addr} (X : K.In h) (G : h.Ns mainGlobals mg) (hfa : mg "law" = some (.ref fa))
  {od0 an0 od1 an1 od2 an2 od3 an3 od4 an4 od5 an5 od6 an6 od7 an7 od8 an8 od9 an9 od10 an10 : Option Addr} {sl0 sl1 sl2 sl3 sl4 sl5 sl6 sl7 sl8 sl9 sl10 : Array (Option Value)} {oc0 kV0 dc0 pm0 cd0 ct0 oc1 kV1 dc1 pm1 cd1 ct1 oc2 kV2 dc2 pm2 cd2 ct2 oc3 kV3 dc3 pm3 cd3 ct3 oc4 kV4 dc4 pm4 cd4 ct4 oc5 kV5 dc5 pm5 cd5 ct5 oc6 kV6 dc6 pm6 cd6 ct6 oc7 kV7 dc7 pm7 cd7 ct7 oc8 kV8 dc8 pm8 cd8 ct8 oc9 kV9 dc9 pm9 cd9 ct9 oc10 kV10 dc10 pm10 cd10 ct10 : Value}
  {q_FIELDS : Addr} {od_FIELDS : Option Addr} {nn_FIELDS : Nat} {sl_FIELDS : Array (Option Value)} {t0_FIELDS t1_FIELDS t2_FIELDS t3_FIELDS t4_FIELDS : Tok}
  (a0 : PySem.W.nsIn K mainGlobals "texts_of" = some (some (.ref g0))) (l0 : K.lookup g0 = some ⟨oc0, od0, .func (PySem.W.fnOf "texts_of" "texts_of" (zas zbe) (zaq zbe) (zad zbe) .none kV0 dc0 pm0 an0 cd0 ct0), sl0⟩) (c0 : PySem.W.codeIn K cd0 "texts_of" = true) (k0 : PySem.W.keepIn K (.ref g0) = true)
  (a1 : PySem.W.nsIn K mainGlobals "cards_by_text" = some (some (.ref g1))) (l1 : K.lookup g1 = some ⟨oc1, od1, .func (PySem.W.fnOf "cards_by_text" "cards_by_text" (zas zap) (zaq zap) (zad zap) .none kV1 dc1 pm1 an1 cd1 ct1), sl1⟩) (c1 : PySem.W.codeIn K cd1 "cards_by_text" = true) (k1 : PySem.W.keepIn K (.ref g1) = true)
  (a2 : PySem.W.nsIn K mainGlobals "texts_told" = some (some (.ref g2))) (l2 : K.lookup g2 = some ⟨oc2, od2, .func (PySem.W.fnOf "texts_told" "texts_told" (zas za3) (zaq za3) (zad za3) .none kV2 dc2 pm2 an2 cd2 ct2), sl2⟩) (c2 : PySem.W.codeIn K cd2 "texts_told" = true) (k2 : PySem.W.keepIn K (.ref g2) = true)
  (a3 : PySem.W.nsIn K mainGlobals "_law_cell_at" = some (some (.ref g3))) (l3 : K.lookup g3 = some ⟨oc3, od3, .func (PySem.W.fnOf "_law_cell_at" "_law_cell_at" (zas zau) (zaq zau) (zad zau) .none kV3 dc3 pm3 an3 cd3 ct3), sl3⟩) (c3 : PySem.W.codeIn K cd3 "_law_cell_at" = true) (k3 : PySem.W.keepIn K (.ref g3) = true)
  (a4 : PySem.W.nsIn K mainGlobals "_law_stream" = some (some (.ref g4))) (l4 : K.lookup g4 = some ⟨oc4, od4, .func (PySem.W.fnOf "_law_stream" "_law_stream" (zas za0) (zaq za0) (zad za0) .none kV4 dc4 pm4 an4 cd4 ct4), sl4⟩) (c4 : PySem.W.codeIn K cd4 "_law_stream" = true) (k4 : PySem.W.keepIn K (.ref g4) = true)
  (a5 : PySem.W.nsIn K mainGlobals "_law_cards" = some (some (.ref g5))) (l5 : K.lookup g5 = some ⟨oc5, od5, .func (PySem.W.fnOf "_law_cards" "_law_cards" (zas za5) (zaq za5) (zad za5) .none kV5 dc5 pm5 an5 cd5 ct5), sl5⟩) (c5 : PySem.W.codeIn K cd5 "_law_cards" = true) (k5 : PySem.W.keepIn K (.ref g5) = true)
  (a6 : PySem.W.nsIn K mainGlobals "_law_text" = some (some (.ref g6))) (l6 : K.lookup g6 = some ⟨oc6, od6, .func (PySem.W.fnOf "_law_text" "_law_text" (zas zbd) (zaq zbd) (zad zbd) .none kV6 dc6 pm6 an6 cd6 ct6), sl6⟩) (c6 : PySem.W.codeIn K cd6 "_law_text" = true) (k6 : PySem.W.keepIn K (.ref g6) = true)
  (a7 : PySem.W.nsIn K mainGlobals "_law_book" = some (some (.ref g7))) (l7 : K.lookup g7 = some ⟨oc7, od7, .func (PySem.W.fnOf "_law_book" "_law_book" (zas zbm) (zaq zbm) (zad zbm) .none kV7 dc7 pm7 an7 cd7 ct7), sl7⟩) (c7 : PySem.W.codeIn K cd7 "_law_book" = true) (k7 : PySem.W.keepIn K (.ref g7) = true)
  (a8 : PySem.W.nsIn K mainGlobals "_law_due" = some (some (.ref g8))) (l8 : K.lookup g8 = some ⟨oc8, od8, .func (PySem.W.fnOf "_law_due" "_law_due" (zas zbc) (zaq zbc) (zad zbc) .none kV8 dc8 pm8 an8 cd8 ct8), sl8⟩) (c8 : PySem.W.codeIn K cd8 "_law_due" = true) (k8 : PySem.W.keepIn K (.ref g8) = true)
  (a9 : PySem.W.nsIn K mainGlobals "_law_good" = some (some (.ref g9))) (l9 : K.lookup g9 = some ⟨oc9, od9, .func (PySem.W.fnOf "_law_good" "_law_good" (zas zbj) (zaq zbj) (zad zbj) .none kV9 dc9 pm9 an9 cd9 ct9), sl9⟩) (c9 : PySem.W.codeIn K cd9 "_law_good" = true) (k9 : PySem.W.keepIn K (.ref g9) = true)
  (a10 : PySem.W.nsIn K mainGlobals "law" = some (some (.ref g10))) (l10 : K.lookup g10 = some ⟨oc10, od10, .func (PySem.W.fnOf "law" "law" (zas zfd) (zaq zfd) (zad zfd) .none kV10 dc10 pm10 an10 cd10 ct10), sl10⟩) (c10 : PySem.W.codeIn K cd10 "law" = true) (k10 : PySem.W.keepIn K (.ref g10) = true)
  (a_FIELDS : PySem.W.nsIn K mainGlobals "FIELDS" = some (some (.ref q_FIELDS))) (l_FIELDS : K.lookup q_FIELDS = some ⟨.type "tuple", od_FIELDS, .seq #[.str (T [110, 97, 109, 101]) t0_FIELDS, .str (T [102, 111, 114, 109, 101, 114]) t1_FIELDS, .str (T [119, 97, 121]) t2_FIELDS, .str (T [100, 97, 121]) t3_FIELDS, .str (T [109, 97, 114, 107]) t4_FIELDS] nn_FIELDS, sl_FIELDS⟩)
  (y_isinstance : PySem.W.nsIn K mainGlobals "isinstance" = some none)
  (y_len : PySem.W.nsIn K mainGlobals "len" = some none)
  (y_list : PySem.W.nsIn K mainGlobals "list" = some none)
  (y_max : PySem.W.nsIn K mainGlobals "max" = some none)
  (y_min : PySem.W.nsIn K mainGlobals "min" = some none)
  (y_range : PySem.W.nsIn K mainGlobals "range" = some none)
  (y_reversed : PySem.W.nsIn K mainGlobals "reversed" = some none)
  (y_set : PySem.W.nsIn K mainGlobals "set" = some none)
  (y_sorted : PySem.W.nsIn K mainGlobals "sorted" = some none)
  (y_tuple : PySem.W.nsIn K mainGlobals "tuple" = some none) :
  ∃ fd : FuncData, (∀ (s : Shared) (v : Value), BindsTo s fd ⟨[v], []⟩ [("_law_script", v)]) /\ ∀ base : Heap, K.In base -> base.Ns mainGlobals mg -> FnOk l.prog w K mg base CX0 21 fa fd ["_law_script"] (zpy K) := by
 have e := hfa.symm.trans (PySem.W.mg_of X G a10)
 cases e
 have F0 := zdg (st:=zbe) l0 c0 k0
 have b0 := F0.binds (ps:=["book", "card", "field"]) zi5
 have F1 := zdg (st:=zap) l1 c1 k1
 have b1 := F1.binds (ps:=["book", "group", "field"]) zfe
 have F2 := zdg (st:=za3) l2 c2 k2
 have b2 := F2.binds (ps:=["book", "group"]) zhx
 have F3 := zdg (st:=zau) l3 c3 k3
 have b3 := F3.binds (ps:=["_law_script", "_law_k"]) zge
 have F4 := zdg (st:=za0) l4 c4 k4
 have b4 := F4.binds (ps:=["_law_cell", "_law_many"]) zg0
 have F5 := zdg (st:=za5) l5 c5 k5
 have b5 := F5.binds (ps:=["_law_cell", "_law_many"]) zie
 have F6 := zdg (st:=zbd) l6 c6 k6
 have b6 := F6.binds (ps:=["_law_cell"]) zj3
 have F7 := zdg (st:=zbm) l7 c7 k7
 have b7 := F7.binds (ps:=["_law_cells", "_law_cards_here", "_law_cell"]) zjl
 have F8 := zdg (st:=zbc) l8 c8 k8
 have b8 := F8.binds (ps:=["_law_book_here", "_law_group"]) zl7
 have F9 := zdg (st:=zbj) l9 c9 k9
 have b9 := F9.binds (ps:=["_law_found", "_law_due_here"]) zi7
 have F10 := zdg (st:=zfd) l10 c10 k10
 have b10 := F10.binds (ps:=["_law_script"]) zt3
 exact ⟨_, fun s v => .of_eq rfl, fun base _ _ => ztp ⟨PySem.W.mg_of X G a_FIELDS, zs0 l_FIELDS rfl rfl rfl (by decide) (by decide) (fun i l u h1 h2 => by rcases i with _ | _ | _ | _ | _ | i <;> simp at h1 h2 <;> (subst h1; subst h2; exact ⟨_, rfl⟩)), F0, b0, PySem.W.mg_of X G a0, F1, b1, PySem.W.mg_of X G a1, F2, b2, PySem.W.mg_of X G a2, F3, b3, PySem.W.mg_of X G a3, F4, b4, PySem.W.mg_of X G a4, F5, b5, PySem.W.mg_of X G a5, F6, b6, PySem.W.mg_of X G a6, F7, b7, PySem.W.mg_of X G a7, F8, b8, PySem.W.mg_of X G a8, F9, b9, PySem.W.mg_of X G a9, F10, b10, PySem.W.mg_of X G a10, PySem.W.mg_none_of X G y_isinstance, PySem.W.mg_none_of X G y_len, PySem.W.mg_none_of X G y_list, PySem.W.mg_none_of X G y_max, PySem.W.mg_none_of X G y_min, PySem.W.mg_none_of X G y_range, PySem.W.mg_none_of X G y_reversed, PySem.W.mg_none_of X G y_set, PySem.W.mg_none_of X G y_sorted, PySem.W.mg_none_of X G y_tuple⟩⟩
theorem walk {l : PySem.W.OpenLaw} {q : Program} {loose : List Str} {XP : (Str -> Option Value) -> Heap -> Prop} {YP : World -> Heap -> Prop} {d : DefRec} {K : Params -> PySem.W.Frag} (hn : l.most = some 63) (hdf : d.params.defaults = [])
  (hY : ∀ (w : World) (h : Heap), YP w h -> (K w.params).In h)
  (F : ∀ (w : World) (mg : Str -> Option Value) (fa : Addr) (h : Heap), (K w.params).In h -> h.Ns mainGlobals mg -> mg d.name = some (.ref fa) ->
   ∃ fd : FuncData, (∀ (s : Shared) (u : Value), BindsTo s fd ⟨[u], []⟩ [("_law_script", u)]) /\ ∀ base : Heap, (K w.params).In base -> base.Ns mainGlobals mg -> FnOk l.prog w (K w.params) mg base CX0 21 fa fd ["_law_script"] (zpy (K w.params))) :
  PySem.W.WalkO q loose XP YP l.row.toRowW d [] (fun f vs => PySem.call f vs) :=
 L2.walk_of (n:=63) (k:=21) (x:="_law_script") (CX:=fun _ => CX0) (sp:=fun w => zpy (K w.params)) hn (by decide) hdf ⟨rfl, by decide, by decide, rfl⟩ hY F (fun _ _ a ns hl _ hS => ⟨a, ns, rfl, hS, hl, fun _ => rfl⟩) fun _ _ _ _ _ z => z
end My
noncomputable def PySem.W.Fast.tw10372242087768375454 : Unit := ()
open PySem PySem.W PyProof.Rows
set_option maxRecDepth 100000 in
set_option maxHeartbeats 0 in
theorem PySem.Challenge.cw_folk_k47_what_a_group_tells_holds : PySem.Challenge.rw_folk_k47_what_a_group_tells.Holds := by
 w_on; o_law; k_head; (case hw => w_witness2)
 k_fill
 refine My.walk (l:=PySem.Challenge.rw_folk_k47_what_a_group_tells) rfl rfl (fun w h Y => PySem.W.kIn_of Y) ?F
 case F =>
  intro w mg fa h KX G hmg
  refine' My.all_mk KX G hmg ?a0 ?l0 ?c0 ?k0 ?a1 ?l1 ?c1 ?k1 ?a2 ?l2 ?c2 ?k2 ?a3 ?l3 ?c3 ?k3 ?a4 ?l4 ?c4 ?k4 ?a5 ?l5 ?c5 ?k5 ?a6 ?l6 ?c6 ?k6 ?a7 ?l7 ?c7 ?k7 ?a8 ?l8 ?c8 ?k8 ?a9 ?l9 ?c9 ?k9 ?a10 ?l10 ?c10 ?k10 ?a_FIELDS ?l_FIELDS ?y_isinstance ?y_len ?y_list ?y_max ?y_min ?y_range ?y_reversed ?y_set ?y_sorted ?y_tuple
  (case a_FIELDS => k_is)
  (case a0 => k_is)
  (case l0 => k_is)
  (case c0 => k_is)
  (case k0 => k_is)
  (case a1 => k_is)
  (case l1 => k_is)
  (case c1 => k_is)
  (case k1 => k_is)
  (case a2 => k_is)
  (case l2 => k_is)
  (case c2 => k_is)
  (case k2 => k_is)
  (case a3 => k_is)
  (case l3 => k_is)
  (case c3 => k_is)
  (case k3 => k_is)
  (case a4 => k_is)
  (case l4 => k_is)
  (case c4 => k_is)
  (case k4 => k_is)
  (case a5 => k_is)
  (case l5 => k_is)
  (case c5 => k_is)
  (case k5 => k_is)
  (case a6 => k_is)
  (case l6 => k_is)
  (case c6 => k_is)
  (case k6 => k_is)
  (case a7 => k_is)
  (case l7 => k_is)
  (case c7 => k_is)
  (case k7 => k_is)
  (case a8 => k_is)
  (case l8 => k_is)
  (case c8 => k_is)
  (case k8 => k_is)
  (case a9 => k_is)
  (case l9 => k_is)
  (case c9 => k_is)
  (case k9 => k_is)
  (case a10 => k_is)
  (case l10 => k_is)
  (case c10 => k_is)
  (case k10 => k_is)
  (case l_FIELDS => k_is)
  (case y_isinstance => k_is)
  (case y_len => k_is)
  (case y_list => k_is)
  (case y_max => k_is)
  (case y_min => k_is)
  (case y_range => k_is)
  (case y_reversed => k_is)
  (case y_set => k_is)
  (case y_sorted => k_is)
  (case y_tuple => k_is)
