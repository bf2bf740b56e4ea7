import PyProof.Rows.All
import Wide.All
import OpenK.AllK
import Wide.FinOn
import Lean
import PyProof.EqAt
import PyProof.EqKinds
import PyProof.TupleCall
import KE.KSortTup
import PySem.SetTable
import KE.KDictList
import PyProof.Rows.SeqMore
import PyProof.StrLawsIn
import PyProof.MeetsStr3
import PyProof.Rows.StrSplitMax
import KE.KDictLaws
import PyProof.Rows.CallKwBuiltin
import PyProof.ZipIter
import PyProof.Rows.ZipGen
import PyProof.Rows.StrWeight2
import KE.KDictSum
import KE.KTryMore
import PyProof.Rows.TopTwo
import PyProof.ExcBaseAll.ValueError
import KE.RegKIsAll
import KE.RegKTryMore
import PyProof.ExcAttrAll.ValueError
import PyProof.Rows.StrDouble
import OpenK.KCls
import KE.KIntText
import PyProof.CallStr
import PySem.Challenge.RW_folk_k21_rules_read
set_option genSizeOf false
set_option bootstrap.genMatcherCode false
noncomputable section
set_option Elab.async false
set_option linter.all false
set_option maxRecDepth 100000
namespace L2
open PySem PySem.Spec PyProof.Rows
noncomputable abbrev Key := Sum Int Str
noncomputable def zoe : Key -> Value -> Bool
 | .inl k, v => Value.isInt k v
 | .inr x, v => Value.isStrOf x v
noncomputable def keyH (w : World) : Key -> Int
 | .inl k => hashInt k
 | .inr x => hashStr w x
theorem zbd : ∀ {k : Key} {v : Value}, zoe k v = true -> (∃ i t, k = Sum.inl i /\ v = Value.int i t) \/ (∃ x t, k = Sum.inr x /\ v = Value.str x t)
 | .inl i, v, h => by
  obtain ⟨t, e⟩ := Value.isInt_shape (k:=i) (v:=v) h
  exact .inl ⟨i, t, rfl, e⟩
 | .inr x, v, h => by
  obtain ⟨t, e⟩ := Value.isStrOf_shape (x:=x) (v:=v) h
  exact .inr ⟨x, t, rfl, e⟩
theorem zpk (a b : Int) : decide ((Sum.inl a : Key) = Sum.inl b) = (a == b) := by
 by_cases e : a = b
 ·subst e; simp
 ·have h : ¬ (Sum.inl a : Key) = Sum.inl b := fun q => e (Sum.inl.inj q)
  rw [decide_eq_false h]
  exact (beq_eq_false_iff_ne.mpr e).symm
theorem zoj (a b : Str) : decide ((Sum.inr a : Key) = Sum.inr b) = decide (a = b) := by
 by_cases e : a = b
 ·subst e; simp
 ·have h : ¬ (Sum.inr a : Key) = Sum.inr b := fun q => e (Sum.inr.inj q)
  rw [decide_eq_false h, decide_eq_false e]
theorem zoi (a : Int) (b : Str) : decide ((Sum.inl a : Key) = Sum.inr b) = false := decide_eq_false (fun q => nomatch q)
theorem zpf (a : Str) (b : Int) : decide ((Sum.inr a : Key) = Sum.inl b) = false := decide_eq_false (fun q => nomatch q)
noncomputable def zdx (prog : Program) (w : World) : PySem.KeyKind prog w Key where
 is := zoe
 hash := keyH w
 inj := fun v a b ha hb => by
  rcases zbd ha with ⟨i, t, rfl, rfl⟩ | ⟨x, t, rfl, rfl⟩
  ·rcases zbd hb with ⟨j, u, rfl, e⟩ | ⟨y, u, rfl, e⟩
   ·injection e with e1 _; rw [e1]
   ·exact nomatch e
  ·rcases zbd hb with ⟨j, u, rfl, e⟩ | ⟨y, u, rfl, e⟩
   ·exact nomatch e
   ·injection e with e1 _; rw [e1]
 byValue := fun k v h => by
  rcases zbd h with ⟨i, t, rfl, rfl⟩ | ⟨x, t, rfl, rfl⟩ <;> rfl
 pyHash := fun hv h => by
  rcases zbd hv with ⟨i, t, rfl, rfl⟩ | ⟨x, t, rfl, rfl⟩
  ·exact wpAny_pyHash_int h
  ·exact wpAny_pyHash_str h
 eqBool := fun hu hv h => by
  rcases zbd hu with ⟨i, t, rfl, rfl⟩ | ⟨x, t, rfl, rfl⟩
  ·rcases zbd hv with ⟨j, u, rfl, rfl⟩ | ⟨y, u, rfl, rfl⟩
   ·rw [zpk] at h; exact wpAny_eqBool_int h
   ·rw [zoi] at h; exact SeqAt.EqAt.int_str i t y u _ _ _ _ h
  ·rcases zbd hv with ⟨j, u, rfl, rfl⟩ | ⟨y, u, rfl, rfl⟩
   ·rw [zpf] at h; exact SeqAt.EqAt.str_int x t j u _ _ _ _ h
   ·rw [zoj] at h; exact wpAny_eqBool_str h
 «strs» := fun k x t v h => by
  rcases zbd h with ⟨i, u, rfl, e⟩ | ⟨y, u, rfl, e⟩
  ·exact nomatch e
  ·injection e with e1 _
   subst e1
   cases v <;> rfl
end L2
namespace L2
open PySem PySem.Spec PyProof.Rows
inductive V where
 | non | bl (b : Bool) | int (i : Int) | str (x : Str) | byt (b : Array UInt8) | flt (b : UInt64) | ref (a : Addr) | ty (n : String)
 deriving DecidableEq
noncomputable def RelV : V -> Value -> Prop
 | .non, u => u = Value.none
 | .bl b, u => u = Value.bool b
 | .int i, u => ∃ t, u = Value.int i t
 | .str x, u => ∃ t, u = Value.str x t
 | .byt b, u => ∃ t, u = Value.bytes b t
 | .flt b, u => ∃ t, u = Value.float b t
 | .ref a, u => u = Value.ref a
 | .ty n, u => u = Value.type n
noncomputable abbrev Vals : List V -> List Value -> Prop := Paired RelV
theorem Vals.length {xs : List V} {us : List Value} (r : Vals xs us) : xs.length = us.length := Paired.length r
theorem Vals.get : ∀ {xs : List V} {us : List Value} {i : Nat} {x : V}, Vals xs us -> xs[i]? = some x -> ∃ u, us[i]? = some u /\ RelV x u
 | _, _, _, _, .nil, e => by simp at e
 | _, _, 0, _, .cons r _, e => by simp at e; subst e; exact ⟨_, rfl, r⟩
 | _, _, i + 1, x, .cons _ t, e => by
  obtain ⟨u, h1, h2⟩ := Vals.get (i:=i) (x:=x) t (by simpa using e)
  exact ⟨u, by simpa using h1, h2⟩
theorem Vals.append : ∀ {xs ys : List V} {us ws : List Value}, Vals xs us -> Vals ys ws -> Vals (xs ++ ys) (us ++ ws)
 | _, _, _, _, .nil, s => s
 | _, _, _, _, .cons r t, s => .cons r (Vals.append t s)
theorem Vals.take : ∀ {xs : List V} {us : List Value} (n : Nat), Vals xs us -> Vals (xs.take n) (us.take n)
 | _, _, 0, _ => .nil
 | _, _, _ + 1, .nil => .nil
 | _, _, n + 1, .cons r t => .cons r (Vals.take n t)
theorem Vals.drop : ∀ {xs : List V} {us : List Value} (n : Nat), Vals xs us -> Vals (xs.drop n) (us.drop n)
 | _, _, 0, r => r
 | _, _, _ + 1, .nil => .nil
 | _, _, n + 1, .cons _ t => Vals.drop n t
noncomputable def RelO : Option V -> Option Value -> Prop
 | some v, some u => RelV v u
 | none, none => True
 | _, _ => False
noncomputable def KV {κ : Type} : List (κ × V) -> List (κ × Value) -> Prop := Paired fun (p : κ × V) (q : κ × Value) => p.1 = q.1 /\ RelV p.2 q.2
noncomputable def kV : Key -> V
 | .inl i => .int i
 | .inr x => .str x
inductive HO where
 /-- a list -/
 | lst (xs : List V)
 /-- a tuple (never changes) -/
 | tup (xs : List V)
 /-- a dict whose keys are ints and texts; one whose keys are tuples of ints and texts (the empty one is both) -/
 | dK (kvs : List (Key × V)) | dT (kvs : List (List Key × V))
 /-- a set of ints: its members, its size -/
 | set (S : Int -> Bool) (n : Nat)
 /-- an instance of the class at C, its dict at dx, its attributes -/
 | ins (C dx : Addr) (fs : List (Str × V))
 /-- the dict of the instance at x -/
 | own (x : Addr)
 /-- the dict of an exception -/
 | xd (fs : List (Str × V))
 /-- a bound method, f of x -/
 | met (f x : Addr)
 /-- a range object lo, lo + 1, .. below hi -/
 | rng (lo hi : Int)
 /-- a thing that is known to the object (the script; a dict while a loop walks it): read, never written while it is so -/
 | frz (o : Obj) (u : HO)
 /-- a code object's table -/
 | tbl (ps : Array Value)
 /-- any other thing, by what is true of its one object (a def of one's own: SetO a S n := HO.ext fun h => ..) -/
 | ext (φ : Heap -> Prop)
noncomputable abbrev Hp := Addr -> Option HO
noncomputable def upd (H : Hp) (a : Addr) (o : HO) : Hp := fun b => if b = a then some o else H b
theorem zal {H : Hp} {a : Addr} {o : HO} : upd H a o a = some o := by unfold upd; rw [if_pos rfl]
theorem zam {H : Hp} {a b : Addr} {o : HO} (h : b ≠ a) : upd H a o b = H b := by unfold upd; rw [if_neg h]
theorem zax {H : Hp} {a b : Addr} {o : HO} (h : H a = some o) (h' : H b = none) : a ≠ b := by
 intro e; subst e; rw [h] at h'; cases h'
section
variable (P : Program) (w : World)
noncomputable def zcl (H : Hp) (h : Heap) (a : Addr) : HO -> Prop
 | .lst xs => xs.length <= sizeLine /\ ∃ (its : List Value) (n : Nat), Vals xs its /\ h.get? a = some { cls := .type "list", data := .seq its.toArray n }
 | .tup xs => xs.length <= sizeLine /\ ∃ its : List Value, Vals xs its /\ IsTup h a its.toArray
 | .dK kvs => kvs.length <= sizeLine /\ (a == sysModules) = false /\ ∃ vs, KV kvs vs /\ h.DictOf (zdx P w) a vs
 | .dT kvs => kvs.length <= sizeLine /\ (a == sysModules) = false /\ ∃ xs : List (List Key × Addr × Value),
   Paired (fun (p : List Key × V) (q : List Key × Addr × Value) => p.1 = q.1 /\ H q.2.1 = some (.tup (p.1.map kV)) /\ RelV p.2 q.2.2) kvs xs /\
   ∃ o es ep, h.get? a = some o /\ o.ExactDict /\ o.data = .dict es ep /\ es.toList = xs.map (entryOfKey (tupleKind (zdx P w))) /\ (xs.map (·.1)).Nodup
 | .set S n => h.SetOf (intKind P w) a S n
 | .ins C dx fs => H dx = some (.own a) /\ fs.length <= 1000 /\ dx ≠ a /\ h.get? a = some (PySem.W.instObj C dx) /\
   ∃ mA, h.Ns1 dx mA /\ (∀ f, RelO (fs.lookup f) (mA f)) /\ PySem.Within mA (fs.map (·.1))
 | .own _ => ∃ o, h.get? a = some o
 | .xd fs => ∃ mA, h.Ns1 a mA /\ ∀ f, RelO (fs.lookup f) (mA f)
 | .rng lo hi => ∃ t u v, h.get? a = some { cls := .type "range", data := .fields #[.int lo t, .int hi u, .int 1 v] }
 | .frz o u => h.get? a = some o /\ zcl H h a u
 | .tbl ps => h.get? a = some { cls := .none, data := .fields ps }
 | .met f x => h.get? a = some (PySem.W.methodObj (.ref f) (.ref x))
 | .ext φ => φ h /\ (∃ o, h.get? a = some o) /\ ∀ h1 h2 : Heap, φ h1 -> (∀ o, h1.get? a = some o -> h2.get? a = some o) -> φ h2
noncomputable def HOk (H : Hp) (h : Heap) : Prop := ∀ a o, H a = some o -> zcl P w H h a o
end
section
variable {P : Program} {w : World} {H H' : Hp} {h h' : Heap} {a : Addr} {o : HO}
theorem zcl.lt (x : zcl P w H h a o) : a < h.objs.size := by
 cases o with
 | lst xs => obtain ⟨_, _, _, _, e⟩ := x; exact Heap.lt_size e
 | tup xs => obtain ⟨_, _, _, p⟩ := x; exact p.lt
 | dK kvs => obtain ⟨_, _, _, _, o, _, _, e, _⟩ := x; exact Heap.lt_size e
 | dT kvs => obtain ⟨_, _, _, _, o, _, _, e, _⟩ := x; exact Heap.lt_size e
 | set S n => obtain ⟨o, _, _, _, e, _⟩ := x; exact Heap.lt_size e
 | ins C dx fs => obtain ⟨_, _, _, e, _⟩ := x; exact Heap.lt_size e
 | own y => obtain ⟨_, e⟩ := x; exact Heap.lt_size e
 | xd fs => obtain ⟨_, ⟨_, _, _, e, _⟩, _⟩ := x; exact Heap.lt_size e
 | rng lo hi => obtain ⟨_, _, _, e⟩ := x; exact Heap.lt_size e
 | frz ob u => obtain ⟨e, _⟩ := x; exact Heap.lt_size e
 | tbl ps => exact Heap.lt_size (show h.get? a = some _ from x)
 | met f y => exact Heap.lt_size (show h.get? a = some _ from x)
 | ext φ => obtain ⟨_, ⟨_, e⟩, _⟩ := x; exact Heap.lt_size e
theorem Paired.mapP {α β : Type} {F G : α -> β -> Prop} : ∀ {l₁ : List α} {l₂ : List β}, Paired F l₁ l₂ -> (∀ a b, F a b -> G a b) -> Paired G l₁ l₂
 | _, _, .nil, _ => .nil
 | _, _, .cons r t, f => .cons (f _ _ r) (Paired.mapP t f)
theorem zcl.stay (x : zcl P w H h a o) (k : ∀ b u, (b = a \/ H b = some (.own a)) -> h.get? b = some u -> h'.get? b = some u)
  (ho : ∀ b, H b = some (.own a) -> H' b = some (.own a)) (ht : ∀ b xs, H b = some (.tup xs) -> H' b = some (.tup xs)) : zcl P w H' h' a o := by
 induction o with
 | lst xs => obtain ⟨z, its, n, r, e⟩ := x; exact ⟨z, its, n, r, k _ _ (.inl rfl) e⟩
 | tup xs => obtain ⟨z, its, r, ob, e, c⟩ := x; exact ⟨z, its, r, ob, k _ _ (.inl rfl) e, c⟩
 | dK kvs => obtain ⟨z, y, vs, r, ob, es, ep, e, c⟩ := x; exact ⟨z, y, vs, r, ob, es, ep, k _ _ (.inl rfl) e, c⟩
 | dT kvs =>
  obtain ⟨z, y, xs, r, ob, es, ep, e, c⟩ := x
  exact ⟨z, y, xs, Paired.mapP r fun p q z => ⟨z.1, ht _ _ z.2.1, z.2.2⟩, ob, es, ep, k _ _ (.inl rfl) e, c⟩
 | set S n => obtain ⟨ob, es, ep, t, e, c⟩ := x; exact ⟨ob, es, ep, t, k _ _ (.inl rfl) e, c⟩
 | ins C dx fs =>
  obtain ⟨d, z, ne, e, mA, ⟨od, es, ep, e2, c⟩, r⟩ := x
  exact ⟨ho _ d, z, ne, k _ _ (.inl rfl) e, mA, ⟨od, es, ep, k _ _ (.inr d) e2, c⟩, r⟩
 | own y => obtain ⟨ob, e⟩ := x; exact ⟨ob, k _ _ (.inl rfl) e⟩
 | xd fs => obtain ⟨mA, ⟨od, es, ep, e, c⟩, r⟩ := x; exact ⟨mA, ⟨od, es, ep, k _ _ (.inl rfl) e, c⟩, r⟩
 | rng lo hi => obtain ⟨t, u, v, e⟩ := x; exact ⟨t, u, v, k _ _ (.inl rfl) e⟩
 | frz ob u ih => obtain ⟨e, q⟩ := x; exact ⟨k _ _ (.inl rfl) e, ih q⟩
 | tbl ps =>
  have e : h.get? a = some { cls := .none, data := .fields ps } := x
  show h'.get? a = some { cls := .none, data := .fields ps }
  exact k a _ (.inl rfl) e
 | met f y =>
  have e : h.get? a = some (PySem.W.methodObj (.ref f) (.ref y)) := x
  show h'.get? a = some (PySem.W.methodObj (.ref f) (.ref y))
  exact k a _ (.inl rfl) e
 | ext φ => obtain ⟨p, ⟨o, e⟩, st⟩ := x; exact ⟨st _ _ p fun o q => k _ _ (.inl rfl) q, ⟨o, k _ _ (.inl rfl) e⟩, st⟩
theorem HOk.lt (x : HOk P w H h) (e : H a = some o) : a < h.objs.size := (x a o e).lt
theorem HOk.fresh (x : HOk P w H h) (e : h.objs.size <= a) : H a = none := by
 cases q : H a with
 | none => rfl
 | some u => exact absurd (Nat.lt_of_lt_of_le (x.lt q) e) (Nat.lt_irrefl _)
theorem HOk.kept (x : HOk P w H h) (k : ∀ b u, h.get? b = some u -> h'.get? b = some u) : HOk P w H h' := fun a o e =>
 (x a o e).stay (fun b u _ q => k b u q) (fun _ q => q) fun _ _ q => q
theorem HOk.laid (x : HOk P w H h) (k : ∀ b u, h.get? b = some u -> h'.get? b = some u) (hp : h.objs.size <= a) (new : zcl P w (upd H a o) h' a o) : HOk P w (upd H a o) h' := fun b u e => by
 have hn := x.fresh hp
 by_cases hb : b = a
 ·subst hb; rw [zal] at e; cases e; exact new
 ·rw [zam hb] at e
  exact (x b u e).stay (fun c v _ q => k c v q) (fun c q => by rw [zam (zax q hn)]; exact q) fun c xs q => by rw [zam (zax q hn)]; exact q
end
noncomputable def Rd (H : Hp) (a : Addr) (u : HO) : Prop := H a = some u \/ ∃ o, H a = some (.frz o u)
theorem Rd.ok {P : Program} {w : World} {H : Hp} {h : Heap} {a : Addr} {u : HO} (r : Rd H a u) (x : HOk P w H h) : zcl P w H h a u := by
 rcases r with r | ⟨o, r⟩
 ·exact x a u r
 ·obtain ⟨_, q⟩ := x a _ r
  exact q
noncomputable def Mut : Option HO -> Prop
 | some (.lst _) => True
 | some (.dK _) => True
 | some (.dT _) => True
 | some (.set _ _) => True
 | some (.ins _ _ _) => True
 | some (.ext _) => True
 | _ => False
section
variable {P : Program} {w : World} {H : Hp} {h h' : Heap} {x e : Addr} {o' : HO}
theorem HOk.write (ok : HOk P w H h) (mu : Mut (H x)) (he : e = x \/ H e = some (.own x)) (k : ∀ b u, b ≠ e -> h.get? b = some u -> h'.get? b = some u) (heo : ∃ u, h'.get? e = some u)
  (new : zcl P w (upd H x o') h' x o') : HOk P w (upd H x o') h' := fun b u q => by
 have nown : ∀ c y, H c = some (.own y) -> c ≠ x := fun c y r z => by subst z; rw [r] at mu; exact mu
 have ntup : ∀ c xs, H c = some (.tup xs) -> c ≠ x := fun c xs r z => by subst z; rw [r] at mu; exact mu
 by_cases hb : b = x
 ·subst hb; rw [zal] at q; cases q; exact new
 ·rw [zam hb] at q
  by_cases hbe : b = e
  ·have q' : H b = some (.own x) := by
    rcases he with z | z
    ·exact absurd (hbe.trans z) hb
    ·rw [hbe]; exact z
   rw [q] at q'; cases q'
   obtain ⟨v, hv⟩ := heo
   exact ⟨v, by rw [hbe]; exact hv⟩
  ·refine (ok b u q).stay (fun c v hc r => k c v ?_ r) (fun c r => by rw [zam (nown c b r)]; exact r) fun c xs r => by rw [zam (ntup c xs r)]; exact r
   rcases hc with rfl | hc
   ·exact hbe
   ·rintro rfl
    rcases he with z | z
    ·exact nown c b hc z
    ·rw [hc] at z; cases z; exact hb rfl
end
structure Un (fs ex : List Addr) (H H' : Hp) (h h' : Heap) : Prop where
 keep : ∀ b o, h.get? b = some o -> H b = none -> b ∉ fs -> b ∉ ex -> h'.get? b = some o
 slot : ∀ b o, h.get? b = some o -> H b = none -> b ∈ fs -> b ∉ ex -> ∃ sl, h'.get? b = some { o with slots := sl }
 free : ∀ b o, h.get? b = some o -> H b = none -> b ∉ ex -> H' b = none
 there : ∀ b o, h.get? b = some o -> b ∉ ex -> ∃ o', h'.get? b = some o'
 tups : ∀ b xs, H b = some (.tup xs) -> H' b = some (.tup xs)
 frzs : ∀ b o u, H b = some (.frz o u) -> H' b = some (.frz o u)
 tbls : ∀ b ps, H b = some (.tbl ps) -> ∃ more, H' b = some (.tbl (ps ++ more))
section
variable {fs fs' ex ex' : List Addr} {H H1 H2 : Hp} {h h1 h2 h' : Heap} {a x e : Addr} {o : HO}
theorem Un.any (u : Un fs ex H H1 h h1) {b : Addr} {ob : Obj} (q : h.get? b = some ob) (n : H b = none) (hx : b ∉ ex) : ∃ sl, h1.get? b = some { ob with slots := sl } := by
 by_cases hb : b ∈ fs
 ·exact u.slot b ob q n hb hx
 ·exact ⟨ob.slots, u.keep b ob q n hb hx⟩
theorem Un.kept (k : ∀ b u, h.get? b = some u -> h'.get? b = some u) : Un fs ex H H h h' :=
 ⟨fun b ob q _ _ _ => k b ob q, fun b ob q _ _ _ => ⟨ob.slots, k b ob q⟩, fun _ _ _ n _ => n, fun b ob q _ => ⟨ob, k b ob q⟩, fun _ _ q => q, fun _ _ _ q => q, fun _ ps q => ⟨#[], by rw [q]; simp⟩⟩
theorem Un.refl : Un fs ex H H h h := Un.kept fun _ _ q => q
theorem Un.laid (k : ∀ b u, h.get? b = some u -> h'.get? b = some u) (hp : h.objs.size <= a) (hn : H a = none) : Un fs ex H (upd H a o) h h' where
 keep := fun b u q _ _ _ => k b u q
 slot := fun b u q _ _ _ => ⟨u.slots, k b u q⟩
 free := fun b u q n _ => by rw [zam (Nat.ne_of_lt (Nat.lt_of_lt_of_le (Heap.lt_size q) hp))]; exact n
 there := fun b u q _ => ⟨u, k b u q⟩
 tups := fun b xs q => by rw [zam (zax q hn)]; exact q
 frzs := fun b u xs q => by rw [zam (zax q hn)]; exact q
 tbls := fun b ps q => ⟨#[], by rw [zam (zax q hn), q]; simp⟩
theorem Un.write (mu : Mut (H x)) (he : e = x \/ H e = some (.own x)) (k : ∀ b u, b ≠ e -> h.get? b = some u -> h'.get? b = some u) (heo : ∃ u, h'.get? e = some u) : Un fs ex H (upd H x o) h h' := by
 have hx : ∀ b, H b = none -> b ≠ x := fun b n z => by subst z; rw [n] at mu; exact mu
 have hb : ∀ b, H b = none -> b ≠ e := fun b n z => by
  subst z
  rcases he with r | r
  ·exact hx b n r
  ·rw [n] at r; cases r
 have hm : ∀ b u, H b = some u -> ¬ Mut (some u) -> b ≠ x := fun b u q nm z => by subst z; rw [q] at mu; exact nm mu
 refine ⟨fun b u q n _ _ => k b u (hb b n) q, fun b u q n _ _ => ⟨u.slots, k b u (hb b n) q⟩, fun b u q n _ => by rw [zam (hx b n)]; exact n, fun b u q _ => ?_,
  fun b xs q => by rw [zam (hm b _ q fun z => z)]; exact q, fun b u xs q => by rw [zam (hm b _ q fun z => z)]; exact q, fun b ps q => ⟨#[], by rw [zam (hm b _ q fun z => z), q]; simp⟩⟩
 by_cases hbe : b = e
 ·subst hbe; exact heo
 ·exact ⟨u, k b u hbe q⟩
end
noncomputable def trk (h : Heap) (H : Hp) : List Addr := (List.range h.objs.size).filter fun a => (H a).isSome
noncomputable def hidT (h : Heap) (H : Hp) : Heap := PySem.W.hideAll h (trk h H)
theorem zk0 (h : Heap) (H : Hp) : (hidT h H).objs.size = h.objs.size := PySem.W.hideAll_size _ _
theorem zls {h : Heap} {H : Hp} {b : Addr} {o : Obj} (e : h.get? b = some o) (n : H b = none) : (hidT h H).get? b = some o :=
 PySem.W.hideAll_get _ e fun hm => by
  have q : (H b).isSome = true := (List.mem_filter.mp hm).2
  rw [n] at q; simp at q
theorem zm9 {h : Heap} {H : Hp} {b : Addr} {o : Obj} (e : (hidT h H).get? b = some o) : h.get? b = some o /\ H b = none := by
 have e' : h.get? b = some o := PySem.W.of_hideAll (trk h H) e
 refine ⟨e', ?_⟩
 cases q : H b with
 | none => rfl
 | some x =>
  have hm : b ∈ trk h H := List.mem_filter.mpr ⟨List.mem_range.mpr (Heap.lt_size e'), by simp [q]⟩
  have z : (hidT h H).get? b = none := PySem.W.hideAll_none (trk h H) hm
  rw [z] at e; cases e
noncomputable def znh (g h : Heap) (L : Addr) : List (Addr × Obj) := (List.range h.objs.size).filterMap fun a => if a = L \/ (g.get? a).isSome = true then none else (h.get? a).map fun o => (a, o)
noncomputable def rest (g h : Heap) (L d : Addr) : List (Addr × Obj) := (znh g h L).filter fun p => decide (p.1 ≠ d)
end L2
namespace L2
open PySem PySem.Spec PyProof.Rows
structure Mod (K : PySem.W.Frag) (mg : Str -> Option Value) (base : Heap) : Prop where
 kin : K.In base
 glob : base.Ns mainGlobals mg
 blt : ∃ mb, base.Ns builtinsNs mb /\ ∀ x : Str, x ≠ "__name__" -> mb x = bootBuiltins x
 nolimit : base.NoLimit
structure Cx where
 prog : Program
 w : World
 K : PySem.W.Frag
 mg : Str -> Option Value
 base : Heap
 A : Around
 N : List Str
 s₀ : Shared
 H₀ : Hp
 env : Env
 outer : List Env
 stack : List Env
 ex : List Addr
 fn : Str -> Bool
 calm : Bool
 pn : List (Addr × Obj)
 xe : Value -> Shared -> Prop
noncomputable def frs (l : List Env) : List Addr := l.filterMap (·.frame)
noncomputable abbrev Cx.fs (X : Cx) : List Addr := frs X.outer
noncomputable def Vis (sc : Scope) (x : Str) : Prop := sc.names.lookup x = some .local \/ sc.names.lookup x = some .cell \/ sc.names.lookup x = some .free
noncomputable def Loc (sc : Scope) (x : Str) : Prop := sc.names.lookup x = some .local \/ sc.names.lookup x = some .cell
noncomputable def Look (env : Env) (h : Heap) (m : Str -> Option Value) (x : Str) (u : Value) : Prop :=
 (env.kindOf x = some .local /\ m x = some u) \/ ((env.kindOf x = some .cell \/ env.kindOf x = some .free) /\ ∃ c, env.cells.lookup x = some c /\ h.IsCell c (some u))
structure Cx.Ok (X : Cx) : Prop where
 mod : Mod X.K X.mg X.base
 kind : X.env.scope.kind = .function
 glob : X.env.globals = mainGlobals
 blt : X.env.builtins = builtinsNs
 above : X.s₀.heap.objs.size <= X.env.locals
 inj : ∀ x y c, X.env.cells.lookup x = some c -> X.env.cells.lookup y = some c -> x = y
 has : ∀ x, (X.env.kindOf x = some .cell \/ X.env.kindOf x = some .free) -> ∃ c, X.env.cells.lookup x = some c
 cab : ∀ x c, X.fn x = true -> X.env.cells.lookup x = some c -> X.s₀.heap.objs.size <= c
 hd : X.calm = true -> X.A.handled = none
 frames : X.A.frames = some X.stack
 stk : X.stack = X.outer \/ (X.stack = X.env :: X.outer /\ X.env.frame = some X.env.locals)
 exf : ∀ b ∈ X.ex, b ≠ X.env.locals /\ ∀ x c, X.env.cells.lookup x = some c -> c ≠ b
 bs : ∀ b o, X.base.get? b = some o -> X.s₀.heap.get? b = some o /\ X.H₀ b = none
 bsz : X.base.objs.size <= X.s₀.heap.objs.size
 noex : ∀ b o, X.base.get? b = some o -> b ∉ X.ex
 exfs : ∀ b ∈ X.ex, b ∉ X.fs
 funs : X.s₀.heap.FunFrames X.base X.outer
 frf : ∀ b ∈ X.fs, X.H₀ b = none
structure Inv (X : Cx) (pins : List (Addr × Obj)) (σ : List (Option V)) (H : Hp) (s : Shared) : Prop where
 ok : X.Ok
 os : s.os = X.s₀.os
 bare : AllBare s.gens
 base : Un X.fs X.ex X.H₀ H X.s₀.heap s.heap
 loc : ∃ m, s.heap.Ns X.env.locals m /\ ∀ (i : Nat) (x : Str) (v : V), X.N[i]? = some x -> σ[i]? = some (some v) -> Vis X.env.scope x -> ∃ u, RelV v u /\ Look X.env s.heap m x u
 cell : ∀ x c, X.env.cells.lookup x = some c -> ∃ v, s.heap.IsCell c v
 free : H X.env.locals = none
 freeC : ∀ x c, X.env.cells.lookup x = some c -> H c = none
 pin : ∀ p ∈ X.pn ++ pins, s.heap.get? p.1 = some p.2 /\ H p.1 = none /\ p.1 ≠ X.env.locals /\ p.1 ∉ X.fs /\ ∀ v, p.2.data ≠ .cell v
 hok : HOk X.prog X.w H s.heap
 len : σ.length = X.N.length
section
variable {X : Cx} {pins : List (Addr × Obj)} {σ : List (Option V)} {H H' : Hp} {s : Shared} {h' : Heap}
theorem Cx.Ok.nofr (ok : X.Ok) {b : Addr} {o : Obj} (e : X.base.get? b = some o) : b ∉ X.fs := fun hb => by
 have := (ok.funs.mem hb).1
 rw [e] at this; cases this
theorem Inv.bs (I : Inv X pins σ H s) : ∀ b o, X.base.get? b = some o -> s.heap.get? b = some o /\ H b = none := fun b o e =>
 ⟨I.base.keep b o (I.ok.bs b o e).1 (I.ok.bs b o e).2 (I.ok.nofr e) (I.ok.noex b o e), I.base.free b o (I.ok.bs b o e).1 (I.ok.bs b o e).2 (I.ok.noex b o e)⟩
theorem Inv.bk (I : Inv X pins σ H s) : ∀ b o, X.base.get? b = some o -> s.heap.get? b = some o := fun b o e => (I.bs b o e).1
theorem Inv.mod (I : Inv X pins σ H s) : Mod X.K X.mg X.base := I.ok.mod
theorem Inv.kIn (I : Inv X pins σ H s) : X.K.In s.heap := I.ok.mod.kin.keeps I.bk
theorem Inv.fr (I : Inv X pins σ H s) : ∃ m, Fr X.base X.env.locals s.heap m :=
 let ⟨m, hn, _⟩ := I.loc
 ⟨m, hn, I.bk, Nat.le_trans I.ok.bsz I.ok.above⟩
theorem Inv.lt (I : Inv X pins σ H s) : X.env.locals < s.heap.objs.size := let ⟨_, hn, _⟩ := I.loc; hn.lt
theorem Inv.sz (I : Inv X pins σ H s) : X.s₀.heap.objs.size <= s.heap.objs.size := Nat.le_trans I.ok.above (Nat.le_of_lt I.lt)
theorem Inv.nofs (I : Inv X pins σ H s) {a : Addr} (h : s.heap.objs.size <= a) : a ∉ X.fs := fun hb => by
 obtain ⟨_, o, ho, _⟩ := I.ok.funs.mem hb
 exact absurd (Nat.lt_of_lt_of_le (Heap.lt_size ho) (Nat.le_trans I.sz h)) (Nat.lt_irrefl _)
theorem Inv.cne (I : Inv X pins σ H s) : ∀ x c, X.env.cells.lookup x = some c -> c ≠ X.env.locals := fun x c e z => by
 obtain ⟨v, o, ho, hd⟩ := I.cell x c e
 obtain ⟨m, ⟨o', es, ep, ho', hd', _⟩, _⟩ := I.loc
 rw [z, ho'] at ho; cases ho; rw [hd'] at hd; cases hd
theorem Inv.funs (I : Inv X pins σ H s) : s.heap.FunFrames X.base X.outer := by
 have all : ∀ (l : List Env), (∀ b ∈ frs l, b ∈ X.fs) -> X.s₀.heap.FunFrames X.base l -> s.heap.FunFrames X.base l := by
  intro l
  induction l with
  | nil => intro _ _; trivial
  | cons env r ih =>
   intro hs hl
   obtain ⟨hk, ⟨L, o, hf, hn, ho, hd⟩, hr⟩ := hl
   have hL : L ∈ X.fs := hs L (by unfold frs; rw [List.filterMap_cons, hf]; exact List.mem_cons_self)
   obtain ⟨sl, e⟩ := I.base.slot L o ho (I.ok.frf L hL) hL fun z => I.ok.exfs L z hL
   exact ⟨hk, ⟨L, _, hf, hn, e, hd⟩, ih (fun b hb => hs b (by unfold frs; rw [List.filterMap_cons, hf]; exact List.mem_cons_of_mem _ hb)) hr⟩
 exact all X.outer (fun _ hb => hb) I.ok.funs
theorem Inv.stack (I : Inv X pins σ H s) : s.heap.FunFrames X.base X.stack := by
 rcases I.ok.stk with e | ⟨e, hf⟩
 ·rw [e]; exact I.funs
 ·rw [e]
  obtain ⟨m, hn, _⟩ := I.loc
  refine .cons (by rw [I.ok.kind]; decide) hf hn ?_ I.funs
  exact Heap.get?_none_of_le (Nat.le_trans I.ok.bsz I.ok.above)
theorem Inv.stkSub (I : Inv X pins σ H s) : ∀ b ∈ frs X.stack, b ∈ X.env.locals :: X.fs := fun b hb => by
 rcases I.ok.stk with e | ⟨e, hf⟩
 ·rw [e] at hb; exact List.mem_cons_of_mem _ hb
 ·rw [e] at hb
  unfold frs at hb
  rw [List.filterMap_cons, hf] at hb
  exact hb
theorem Inv.stkFree (I : Inv X pins σ H s) : ∀ b ∈ frs X.stack, H b = none := fun b hb => by
 rcases List.mem_cons.mp (I.stkSub b hb) with e | hb
 ·rw [e]; exact I.free
 ·obtain ⟨_, o, ho, _⟩ := I.ok.funs.mem hb
  exact I.base.free b o ho (I.ok.frf b hb) fun z => I.ok.exfs b z hb
theorem Inv.step {g' : Array GenState} {t' : Nat} {d' : Drawn} {ch : List Addr} (I : Inv X pins σ H s)
  (hch : ∀ b ∈ ch, (b ∈ X.ex \/ X.s₀.heap.objs.size <= b) /\ b ≠ X.env.locals /\ (∀ x c, X.env.cells.lookup x = some c -> c ≠ b) /\ ∀ p ∈ X.pn ++ pins, p.1 ≠ b)
  (keep : ∀ b o, b ≠ X.env.locals -> b ∉ X.fs -> b ∉ ch -> s.heap.get? b = some o -> H b = none -> h'.get? b = some o)
  (slot : ∀ b o, b ≠ X.env.locals -> b ∈ X.fs -> b ∉ ch -> s.heap.get? b = some o -> H b = none -> ∃ sl, h'.get? b = some { o with slots := sl }) (free : ∀ b o, b ∉ ch -> s.heap.get? b = some o -> H b = none -> H' b = none)
  (there : ∀ b o, b ∉ ch -> s.heap.get? b = some o -> ∃ o', h'.get? b = some o')
  (tups : ∀ b xs, H b = some (.tup xs) -> H' b = some (.tup xs)) (frzs : ∀ b o u, H b = some (.frz o u) -> H' b = some (.frz o u)) (tbls : ∀ b ps, H b = some (.tbl ps) -> ∃ more, H' b = some (.tbl (ps ++ more)))
  (ns : ∀ m, s.heap.Ns X.env.locals m -> h'.Ns X.env.locals m) (hok : HOk X.prog X.w H' h') (hg : AllBare g') :
  Inv X pins σ H' { s with heap := h', gens := g', drawn := d', toks := t' } := by
 have neL : ∀ b o, X.s₀.heap.get? b = some o -> b ≠ X.env.locals := fun b o e => Nat.ne_of_lt (Nat.lt_of_lt_of_le (Heap.lt_size e) I.ok.above)
 have neC : ∀ b o, X.s₀.heap.get? b = some o -> b ∉ X.ex -> b ∉ ch := fun b o e hx hb => by
  rcases (hch b hb).1 with z | z
  ·exact hx z
  ·exact absurd (Nat.lt_of_lt_of_le (Heap.lt_size e) z) (Nat.lt_irrefl _)
 have cellK : ∀ x c, X.env.cells.lookup x = some c -> ∀ v, s.heap.IsCell c v -> h'.IsCell c v := fun x c e v ⟨o, ho, hd⟩ => by
  have nch : c ∉ ch := fun z => (hch c z).2.2.1 x c e rfl
  by_cases hc : c ∈ X.fs
  ·obtain ⟨sl, q⟩ := slot c o (I.cne x c e) hc nch ho (I.freeC x c e)
   exact ⟨_, q, hd⟩
  ·exact ⟨o, keep c o (I.cne x c e) hc nch ho (I.freeC x c e), hd⟩
 refine ⟨I.ok, I.os, hg, ⟨fun b o e n hb hx => ?_, fun b o e n hb hx => ?_, fun b o e n hx => ?_, fun b o e hx => ?_, fun b xs e => tups b xs (I.base.tups b xs e), fun b o xs e => frzs b o xs (I.base.frzs b o xs e), fun b ps e => ?_⟩, ?_, fun x c e => ?_, ?_, fun x c e => ?_, fun p hp => ?_, hok, I.len⟩
 ·exact keep b o (neL b o e) hb (neC b o e hx) (I.base.keep b o e n hb hx) (I.base.free b o e n hx)
 ·obtain ⟨sl, e1⟩ := I.base.slot b o e n hb hx
  obtain ⟨sl', e2⟩ := slot b _ (neL b o e) hb (neC b o e hx) e1 (I.base.free b o e n hx)
  exact ⟨sl', e2⟩
 ·obtain ⟨o', e1⟩ := I.base.there b o e hx
  exact free b o' (neC b o e hx) e1 (I.base.free b o e n hx)
 ·obtain ⟨o', e1⟩ := I.base.there b o e hx
  exact there b o' (neC b o e hx) e1
 ·obtain ⟨m1, e1⟩ := I.base.tbls b ps e
  obtain ⟨m2, e2⟩ := tbls b _ e1
  exact ⟨m1 ++ m2, by rw [e2, Array.append_assoc]⟩
 ·obtain ⟨m, hn, hl⟩ := I.loc
  refine ⟨m, ns m hn, fun i x v e1 e2 e3 => ?_⟩
  obtain ⟨u, r, l⟩ := hl i x v e1 e2 e3
  refine ⟨u, r, ?_⟩
  rcases l with l | ⟨k, c, e, z⟩
  ·exact .inl l
  ·exact .inr ⟨k, c, e, cellK x c e _ z⟩
 ·obtain ⟨v, z⟩ := I.cell x c e
  exact ⟨v, cellK x c e v z⟩
 ·obtain ⟨m, ⟨o, _, _, ho, _⟩, _⟩ := I.loc
  exact free _ o (fun z => (hch _ z).2.1 rfl) ho I.free
 ·obtain ⟨v, o, ho, hd⟩ := I.cell x c e
  exact free c o (fun z => (hch c z).2.2.1 x c e rfl) ho (I.freeC x c e)
 ·obtain ⟨e, n, ne, nf, d⟩ := I.pin p hp
  have nch : p.1 ∉ ch := fun z => (hch p.1 z).2.2.2 p hp rfl
  exact ⟨keep p.1 p.2 ne nf nch e n, free p.1 p.2 nch e n, ne, nf, d⟩
theorem Inv.un {t' : Nat} (I : Inv X pins σ H s) (u : Un X.fs [] H H' s.heap h') (hok : HOk X.prog X.w H' h') : Inv X pins σ H' { s with heap := h', toks := t' } := by
 obtain ⟨m, ⟨o, es, ep, ho, r⟩, _⟩ := id I.loc
 obtain ⟨sl, hL⟩ := u.any ho I.free (by simp)
 exact I.step (g':=s.gens) (d':=s.drawn) (ch:=[]) (fun _ z => nomatch z) (fun b o _ hb _ e n => u.keep b o e n hb (by simp)) (fun b o _ hb _ e n => u.slot b o e n hb (by simp)) (fun b o _ e n => u.free b o e n (by simp)) (fun b o _ e => u.there b o e (by simp)) u.tups u.frzs u.tbls (fun m' hm => by
  obtain ⟨o', es', ep', ho', r'⟩ := hm
  rw [ho] at ho'; cases ho'
  exact ⟨_, es', ep', hL, r'⟩) hok I.bare
theorem Inv.call {g' : Array GenState} {t' : Nat} {d' : Drawn} {ch : List Addr} (I : Inv X pins σ H s) (u : Un (frs X.stack) ch H H' s.heap h') (hok : HOk X.prog X.w H' h') (hg : AllBare g')
  (hch : ∀ b ∈ ch, (b ∈ X.ex \/ X.s₀.heap.objs.size <= b) /\ b ≠ X.env.locals /\ (∀ x c, X.env.cells.lookup x = some c -> c ≠ b) /\ ∀ p ∈ X.pn ++ pins, p.1 ≠ b) :
  Inv X pins σ H' { s with heap := h', gens := g', drawn := d', toks := t' } := by
 obtain ⟨m, ⟨o, es, ep, ho, r⟩, _⟩ := id I.loc
 obtain ⟨sl, hL⟩ := u.any ho I.free fun z => (hch _ z).2.1 rfl
 exact I.step (ch:=ch) hch (fun b o hL hb hc e n => u.keep b o e n (fun z => (List.mem_cons.mp (I.stkSub b z)).elim hL hb) hc) (fun b o _ _ hc e n => u.any e n hc) (fun b o hc e n => u.free b o e n hc) (fun b o hc e => u.there b o e hc) u.tups u.frzs u.tbls (fun m' hm => by
  obtain ⟨o', es', ep', ho', r'⟩ := hm
  rw [ho] at ho'; cases ho'
  exact ⟨_, es', ep', hL, r'⟩) hok hg
theorem Inv.turned {t' : Nat} {it : Addr} (I : Inv X pins σ H s) (k : ∀ b o, b ≠ it -> s.heap.get? b = some o -> h'.get? b = some o) (hn : H it = none) (hL : it ≠ X.env.locals)
  (h1 : it ∈ X.ex \/ X.s₀.heap.objs.size <= it) (h2 : ∀ x c, X.env.cells.lookup x = some c -> c ≠ it) (h3 : ∀ p ∈ X.pn ++ pins, p.1 ≠ it) : Inv X pins σ H { s with heap := h', toks := t' } := by
 have nit : ∀ b u, H b = some u -> b ≠ it := fun b u e z => by rw [z, hn] at e; cases e
 refine I.step (g':=s.gens) (d':=s.drawn) (ch:=[it]) (fun b hb => ?_) (fun b o _ _ hc e _ => k b o (fun z => hc (by simp [z])) e) (fun b o _ _ hc e _ => ⟨o.slots, k b o (fun z => hc (by simp [z])) e⟩) (fun _ _ _ _ n => n)
  (fun b o hc e => ⟨o, k b o (fun z => hc (by simp [z])) e⟩) (fun _ _ e => e) (fun _ _ _ e => e) (fun b ps e => ⟨#[], by rw [e]; simp⟩) (fun m hm => ?_) (fun b u e => ?_) I.bare
 ·have e : b = it := by simpa using hb
  subst e
  exact ⟨h1, hL, h2, h3⟩
 ·obtain ⟨o, es, ep, ho, r⟩ := hm
  exact ⟨o, es, ep, k _ o (Ne.symm hL) ho, r⟩
 ·refine (I.hok b u e).stay (fun c v hc q => k c v ?_ q) (fun _ q => q) fun _ _ q => q
  rcases hc with z | z
  ·rw [z]; exact nit b u e
  ·exact nit c _ z
theorem Inv.tok (I : Inv X pins σ H s) (t : Nat) : Inv X pins σ H { s with toks := t } := I.un (h':=s.heap) (t':=t) Un.refl I.hok
theorem Inv.kept {t' : Nat} (I : Inv X pins σ H s) (k : ∀ b u, s.heap.get? b = some u -> h'.get? b = some u) : Inv X pins σ H { s with heap := h', toks := t' } := I.un (Un.kept k) (I.hok.kept k)
theorem Inv.laid {a : Addr} {o : HO} {t' : Nat} (I : Inv X pins σ H s) (k : ∀ b u, s.heap.get? b = some u -> h'.get? b = some u) (hp : s.heap.objs.size <= a) (new : zcl X.prog X.w (upd H a o) h' a o) :
  Inv X pins σ (upd H a o) { s with heap := h', toks := t' } := I.un (Un.laid k hp (I.hok.fresh hp)) (I.hok.laid k hp new)
theorem Inv.write {x e : Addr} {o : HO} {t' : Nat} (I : Inv X pins σ H s) (mu : Mut (H x)) (he : e = x \/ H e = some (.own x)) (k : ∀ b u, b ≠ e -> s.heap.get? b = some u -> h'.get? b = some u) (heo : ∃ u, h'.get? e = some u)
  (new : zcl X.prog X.w (upd H x o) h' x o) : Inv X pins σ (upd H x o) { s with heap := h', toks := t' } := I.un (Un.write mu he k heo) (I.hok.write mu he k heo new)
theorem Inv.weak {σ' : List (Option V)} (I : Inv X pins σ H s) (hl : σ'.length = σ.length) (w : ∀ (i : Nat) v, σ'[i]? = some (some v) -> σ[i]? = some (some v)) : Inv X pins σ' H s :=
 ⟨I.ok, I.os, I.bare, I.base, let ⟨m, hn, hl'⟩ := I.loc; ⟨m, hn, fun i x v e1 e2 e3 => hl' i x v e1 (w i v e2) e3⟩, I.cell, I.free, I.freeC, I.pin, I.hok, hl.trans I.len⟩
theorem Inv.pins_of {pins' : List (Addr × Obj)} (I : Inv X pins σ H s) (h : ∀ p ∈ pins', s.heap.get? p.1 = some p.2 /\ H p.1 = none /\ p.1 ≠ X.env.locals /\ p.1 ∉ X.fs /\ ∀ v, p.2.data ≠ .cell v) : Inv X pins' σ H s :=
 ⟨I.ok, I.os, I.bare, I.base, I.loc, I.cell, I.free, I.freeC, fun p hp => (List.mem_append.mp hp).elim (fun z => I.pin p (List.mem_append_left _ z)) (h p), I.hok, I.len⟩
theorem ziv {N : List Str} (hN : N.Nodup) {i j : Nat} {x : Str} (a : N[i]? = some x) (b : N[j]? = some x) : i = j := by
 obtain ⟨h1, e1⟩ := List.getElem?_eq_some_iff.mp a
 obtain ⟨h2, e2⟩ := List.getElem?_eq_some_iff.mp b
 exact (List.getElem_inj hN).mp (e1.trans e2.symm)
theorem zjx {M : Model} {A : Around} {E : Value -> Shared -> Prop} {i : Nat} {x : Str} {v : V} {u : Value} {Q : Unit -> Shared -> Prop} (I : Inv X pins σ H s) (hN : X.N.Nodup) (hi : X.N[i]? = some x) (hx : Loc X.env.scope x) (r : RelV v u)
  (h : ∀ s', Inv X pins (σ.set i (some v)) H s' -> (∃ a, Heap.SameBut a s.heap s'.heap /\ (a = X.env.locals \/ X.env.cells.lookup x = some a)) -> Q () s') (hf : X.fn x = true \/ X.env.scope.names.lookup x = some .local := by first | exact .inl rfl | exact .inr rfl | assumption) : wpAny M A (storeName X.env x u) Q E s := by
 obtain ⟨m, hn, hl⟩ := id I.loc
 have hcls : (X.env.scope.kind == .class || (X.env.scope.kind == .module && X.env.locals != X.env.globals)) = false := by rw [I.ok.kind]; rfl
 have hiσ : i < σ.length := by rw [I.len]; exact (List.getElem?_eq_some_iff.mp hi).1
 have cne := I.cne
 have tracked : ∀ {a : Addr} {h' : Heap}, (∃ o, s.heap.get? a = some o /\ H a = none) -> Heap.SameBut a s.heap h' -> HOk X.prog X.w H h' := fun {a h'} ha hs b ob e => by
  obtain ⟨_, _, hfree⟩ := ha
  refine (I.hok b ob e).stay (fun c w' hc q => (hs.2 c ?_).trans q) (fun _ q => q) fun _ _ q => q
  rintro rfl
  rcases hc with rfl | hc
  ·rw [hfree] at e; cases e
  ·rw [hfree] at hc; cases hc
 rcases hx with hk | hk
 ·refine wpAny_storeName_local hk hn (fun h' hn' hs => ?_) hcls
  obtain ⟨oL, _, _, hoL, _⟩ := id hn
  refine h _ ⟨I.ok, I.os, I.bare, ⟨fun b o e n hb hx => ?_, fun b o e n hb hx => ?_, I.base.free, fun b o e hx => ?_, I.base.tups, I.base.frzs, I.base.tbls⟩, ⟨_, hn', fun j y v' e1 e2 e3 => ?_⟩, fun y c e => ?_, I.free, I.freeC, fun p hp => ?_, tracked ⟨oL, hoL, I.free⟩ hs, by simpa using I.len⟩ ⟨_, hs, .inl rfl⟩
  ·exact (hs.2 b (Nat.ne_of_lt (Nat.lt_of_lt_of_le (Heap.lt_size e) I.ok.above))).trans (I.base.keep b o e n hb hx)
  ·obtain ⟨sl, e1⟩ := I.base.slot b o e n hb hx
   exact ⟨sl, (hs.2 b (Nat.ne_of_lt (Nat.lt_of_lt_of_le (Heap.lt_size e) I.ok.above))).trans e1⟩
  ·obtain ⟨o', e1⟩ := I.base.there b o e hx
   exact ⟨o', (hs.2 b (Nat.ne_of_lt (Nat.lt_of_lt_of_le (Heap.lt_size e) I.ok.above))).trans e1⟩
  ·by_cases hj : j = i
   ·subst hj
    rw [hi] at e1; cases e1
    rw [List.getElem?_set_self hiσ] at e2
    cases e2
    exact ⟨u, r, .inl ⟨hk, by simp⟩⟩
   ·rw [List.getElem?_set_ne (Ne.symm hj)] at e2
    obtain ⟨u', r', q⟩ := hl j y v' e1 e2 e3
    refine ⟨u', r', ?_⟩
    rcases q with ⟨k, e⟩ | ⟨k, c, e, z⟩
    ·refine .inl ⟨k, ?_⟩
     have : y ≠ x := fun e => hj (ziv hN e1 (e ▸ hi))
     simp [this, e]
    ·exact .inr ⟨k, c, e, z.sameBut hs (cne y c e)⟩
  ·obtain ⟨w', z⟩ := I.cell y c e
   exact ⟨w', z.sameBut hs (cne y c e)⟩
  ·obtain ⟨e, n, ne, nf, d⟩ := I.pin p hp
   exact ⟨(hs.2 p.1 ne).trans e, n, ne, nf, d⟩
 ·have hfn : X.fn x = true := by
   rcases hf with z | z
   ·exact z
   ·rw [z] at hk; cases hk
  obtain ⟨c, hc⟩ := I.ok.has x (.inl hk)
  obtain ⟨w', z⟩ := I.cell x c hc
  refine wpAny_storeName_cell I.ok.kind hk hc z (fun h' hc' hs => ?_)
  obtain ⟨oc, hoc, hocd⟩ := id z
  refine h { s with heap := h' } ⟨I.ok, I.os, I.bare, ⟨fun b o e n hb hx => ?_, fun b o e n hb hx => ?_, I.base.free, fun b o e hx => ?_, I.base.tups, I.base.frzs, I.base.tbls⟩, ⟨m, hn.sameBut hs (Ne.symm (cne x c hc)), fun j y v' e1 e2 e3 => ?_⟩, fun y c' e => ?_, I.free, I.freeC, fun p hp => ?_, tracked ⟨oc, hoc, I.freeC x c hc⟩ hs, by simpa using I.len⟩ ⟨c, hs, .inr hc⟩
  ·exact (hs.2 b (Nat.ne_of_lt (Nat.lt_of_lt_of_le (Heap.lt_size e) (I.ok.cab x c hfn hc)))).trans (I.base.keep b o e n hb hx)
  ·obtain ⟨sl, e1⟩ := I.base.slot b o e n hb hx
   exact ⟨sl, (hs.2 b (Nat.ne_of_lt (Nat.lt_of_lt_of_le (Heap.lt_size e) (I.ok.cab x c hfn hc)))).trans e1⟩
  ·obtain ⟨o', e1⟩ := I.base.there b o e hx
   exact ⟨o', (hs.2 b (Nat.ne_of_lt (Nat.lt_of_lt_of_le (Heap.lt_size e) (I.ok.cab x c hfn hc)))).trans e1⟩
  ·by_cases hj : j = i
   ·subst hj
    rw [hi] at e1; cases e1
    rw [List.getElem?_set_self hiσ] at e2
    cases e2
    exact ⟨u, r, .inr ⟨.inl hk, c, hc, hc'⟩⟩
   ·rw [List.getElem?_set_ne (Ne.symm hj)] at e2
    obtain ⟨u', r', q⟩ := hl j y v' e1 e2 e3
    refine ⟨u', r', ?_⟩
    rcases q with q | ⟨k, c', e, z'⟩
    ·exact .inl q
    ·refine .inr ⟨k, c', e, z'.sameBut hs ?_⟩
     rintro rfl
     exact hj (ziv hN e1 (I.ok.inj _ _ _ e hc ▸ hi))
  ·by_cases hcc : c' = c
   ·subst hcc; exact ⟨_, hc'⟩
   ·obtain ⟨w2, z2⟩ := I.cell y c' e
    exact ⟨w2, z2.sameBut hs hcc⟩
  ·obtain ⟨e, n, ne, nf, d⟩ := I.pin p hp
   refine ⟨(hs.2 p.1 ?_).trans e, n, ne, nf, d⟩
   intro q
   rw [q, hoc] at e
   have q' : oc = p.2 := Option.some.inj e
   exact d w' (by rw [<- q']; exact hocd)
theorem zig {M : Model} {A : Around} {E : Value -> Shared -> Prop} {i : Nat} {x : Str} {v : V} {u : Value} {Q : Unit -> Shared -> Prop} (I : Inv X pins σ H s) (hN : X.N.Nodup) (hi : X.N[i]? = some x) (hx : Loc X.env.scope x) (r : RelV v u)
  (h : ∀ s', Inv X pins (σ.set i (some v)) H s' -> Q () s') (hf : X.fn x = true \/ X.env.scope.names.lookup x = some .local := by first | exact .inl rfl | exact .inr rfl | assumption) : wpAny M A (storeName X.env x u) Q E s :=
 zjx I hN hi hx r (fun s' I' _ => h s' I') hf
theorem Inv.call' {s' : Shared} {ch : List Addr} (I : Inv X pins σ H s) (ho : s'.os = s.os) (u : Un (frs X.stack) ch H H' s.heap s'.heap) (hok : HOk X.prog X.w H' s'.heap) (hg : AllBare s'.gens)
  (hch : ∀ b ∈ ch, (b ∈ X.ex \/ X.s₀.heap.objs.size <= b) /\ b ≠ X.env.locals /\ (∀ x c, X.env.cells.lookup x = some c -> c ≠ b) /\ ∀ p ∈ X.pn ++ pins, p.1 ≠ b) : Inv X pins σ H' s' := by
 obtain ⟨h', g', d', t', o'⟩ := s'
 have e : o' = s.os := ho
 subst e
 exact I.call (g':=g') (t':=t') (d':=d') u hok hg hch
end
noncomputable abbrev XK := Value -> Option Addr -> Hp -> Prop
noncomputable abbrev St := List (Option V)
noncomputable abbrev VK := V -> Hp -> Prop
noncomputable abbrev TE := St -> Hp -> VK -> Prop
noncomputable abbrev TT := St -> Hp -> (Bool -> Hp -> Prop) -> Prop
noncomputable abbrev TA := St -> Hp -> (List V -> Hp -> Prop) -> Prop
structure Ends where
 nx : St -> Hp -> Prop
 rt : VK
 bk : St -> Hp -> Prop := fun _ _ => False
 ct : St -> Hp -> Prop := fun _ _ => False
noncomputable abbrev TS := Ends -> St -> Hp -> Prop
noncomputable def EP (X : Cx) (pins : List (Addr × Obj)) (σ : St) (Q : VK) (u : Value) (s' : Shared) : Prop := ∃ v H', Inv X pins σ H' s' /\ RelV v u /\ Q v H'
noncomputable def TP (X : Cx) (pins : List (Addr × Obj)) (σ : St) (Q : Bool -> Hp -> Prop) (b : Bool) (s' : Shared) : Prop := ∃ H', Inv X pins σ H' s' /\ Q b H'
noncomputable def AP (X : Cx) (pins : List (Addr × Obj)) (σ : St) (Q : List V -> Hp -> Prop) (us : List Value) (s' : Shared) : Prop := ∃ vs H', Inv X pins σ H' s' /\ Vals vs us /\ Q vs H'
noncomputable def SP (X : Cx) (pins : List (Addr × Obj)) (D : Ends) (f : Flow) (s' : Shared) : Prop :=
 match f with
 | .next => ∃ σ' H', Inv X pins σ' H' s' /\ D.nx σ' H'
 | .brk => ∃ σ' H', Inv X pins σ' H' s' /\ D.bk σ' H'
 | .cont => ∃ σ' H', Inv X pins σ' H' s' /\ D.ct σ' H'
 | .ret u => ∃ v σ' H', Inv X pins σ' H' s' /\ RelV v u /\ D.rt v H'
noncomputable def PE (X : Cx) (e : Expr) (t : TE) : Prop :=
 ∀ (pins : List (Addr × Obj)) (s : Shared) (σ : St) (H : Hp) (Q : VK), Inv X pins σ H s -> t σ H Q -> wpAny (model X.prog X.w) X.A (eval e X.env) (EP X pins σ Q) X.xe s
noncomputable def PT (X : Cx) (e : Expr) (t : TT) : Prop :=
 ∀ (pins : List (Addr × Obj)) (s : Shared) (σ : St) (H : Hp) (Q : Bool -> Hp -> Prop), Inv X pins σ H s -> t σ H Q -> wpAny (model X.prog X.w) X.A (isTrue e X.env (eval e X.env)) (TP X pins σ Q) X.xe s
noncomputable def PW (X : Cx) (e : Expr) (t : TT) : Prop :=
 ∀ (whole : Sem Value) (pins : List (Addr × Obj)) (s : Shared) (σ : St) (H : Hp) (Q : Bool -> Hp -> Prop), Inv X pins σ H s -> t σ H Q -> wpAny (model X.prog X.w) X.A (isTrue e X.env whole) (TP X pins σ Q) X.xe s
theorem PW.pt {X : Cx} {e : Expr} {t : TT} (h : PW X e t) : PT X e t := h _
noncomputable def PA (X : Cx) (es : List Expr) (t : TA) : Prop :=
 ∀ (pos : Pos) (pins : List (Addr × Obj)) (s : Shared) (σ : St) (H : Hp) (Q : List V -> Hp -> Prop), Inv X pins σ H s -> t σ H Q -> wpAny (model X.prog X.w) X.A (spliced (backTo pos (starEach es X.env))) (AP X pins σ Q) X.xe s
noncomputable def PS (X : Cx) (st : Stmt) (t : TS) : Prop :=
 ∀ (pins : List (Addr × Obj)) (s : Shared) (σ : St) (H : Hp) (D : Ends), Inv X pins σ H s -> t D σ H -> wpAny (model X.prog X.w) X.A (exec st X.env) (SP X pins D) X.xe s
noncomputable def PSs (X : Cx) (st : List Stmt) (t : TS) : Prop :=
 ∀ (pins : List (Addr × Obj)) (s : Shared) (σ : St) (H : Hp) (D : Ends), Inv X pins σ H s -> t D σ H -> wpAny (model X.prog X.w) X.A (execs st X.env) (SP X pins D) X.xe s
theorem thn {α : Type} {t : Sem α} {Q Q' : α -> Shared -> Prop} {M : Model} {A : Around} {E : Value -> Shared -> Prop} {s : Shared} (h : wpAny M A t Q E s) (hQ : ∀ a s, Q a s -> Q' a s) : wpAny M A t Q' E s := wpAny_mono h hQ fun _ _ x => x
end L2
namespace L2
open PySem PySem.Spec PyProof.Rows
section
variable {X : Cx}
noncomputable def tVar (i : Nat) : TE := fun σ H Q => ∃ v, σ[i]? = some (some v) /\ Q v H
noncomputable def tC (v : V) : TE := fun _ H Q => Q v H
theorem zo1 {i : Nat} {x : Str} {pos : Pos} (hN : X.N[i]? = some x) (hv : Vis X.env.scope x) (hd : (x == ("__debug__" : Str)) = false := by decide) (hcd : (x == ("__classdict__" : Str)) = false := by decide) : PE X (.Name x pos) (tVar i) := by
 intro pins s σ H Q I h
 obtain ⟨v, e, h⟩ := h
 obtain ⟨m, hn, hl⟩ := I.loc
 obtain ⟨u, r, l⟩ := hl i x v hN e hv
 have fin : EP X pins σ Q u s := ⟨v, H, I, r, h⟩
 rcases l with ⟨hk, hm⟩ | ⟨hk, c, hc, hcell⟩
 ·exact wpAny_Name (wpAny_loadName_local I.ok.kind hk hn hm fin) hd
 ·rcases hk with hk | hk
  ·exact wpAny_Name (wpAny_loadName_cell I.ok.kind hk hc hcell fin) hd
  ·exact wpAny_Name (wpAny_loadName_free I.ok.kind hk hc hcell fin hcd) hd
theorem zau {i j pos} : PE X (.Constant (.int i) j pos) (tC (.int i)) := fun _ _ _ H _ I h => wpAny_Constant_int ⟨.int i, H, I.tok _, ⟨_, rfl⟩, h⟩
theorem zhw {b j pos} : PE X (.Constant (.bool b) j pos) (tC (.bl b)) := fun _ _ _ H _ I h => Constant_bool ⟨.bl b, H, I, rfl, h⟩
theorem zan {x j pos} : PE X (.Constant (.str x) j pos) (tC (.str x)) := fun _ _ _ H _ I h => Calls.Constant_str ⟨.str x, H, I.tok _, ⟨_, rfl⟩, h⟩
noncomputable def Gl (X : Cx) (x : Str) : Prop := X.env.kindOf x = some .globalImplicit
theorem zhv {E : Value -> Shared -> Prop} {pins : List (Addr × Obj)} {s : Shared} {σ : St} {H : Hp} {x : Str} {u : Value} {pos : Pos} {Q : Value -> Shared -> Prop} (I : Inv X pins σ H s) (hg : Gl X x) (hm : X.mg x = some u) (h : Q u s)
  (hd : (x == ("__debug__" : Str)) = false := by decide) : wpAny (model X.prog X.w) X.A (eval (.Name x pos) X.env) Q E s :=
 Calls.Name_function_global I.ok.kind hg (Calls.loadGlobal_global (by rw [I.ok.glob]; exact I.mod.glob.keeps I.bk) hm h) hd
theorem zfk {E : Value -> Shared -> Prop} {pins : List (Addr × Obj)} {s : Shared} {σ : St} {H : Hp} {x : Str} {u : Value} {pos : Pos} {Q : Value -> Shared -> Prop} (I : Inv X pins σ H s) (hg : Gl X x) (hm : X.mg x = none) (hv : bootBuiltins x = some u) (h : Q u s)
  (hn : x ≠ "__name__" := by decide) (hd : (x == ("__debug__" : Str)) = false := by decide) : wpAny (model X.prog X.w) X.A (eval (.Name x pos) X.env) Q E s := by
 obtain ⟨mb, h1, h2⟩ := I.mod.blt
 exact Calls.Name_function_global I.ok.kind hg (Calls.loadGlobal_builtin (by rw [I.ok.glob]; exact I.mod.glob.keeps I.bk) hm (by rw [I.ok.blt]; exact h1.keeps I.bk) ((h2 x hn).trans hv) h) hd
theorem zb9 {x : Str} {v : V} {u : Value} {pos : Pos} (hg : Gl X x) (hm : X.mg x = some u) (r : RelV v u) (hd : (x == ("__debug__" : Str)) = false := by decide) : PE X (.Name x pos) (tC v) :=
 fun _ _ _ H _ I h => zhv I hg hm ⟨v, H, I, r, h⟩ hd
theorem zex {x : Str} {v : V} {u : Value} {pos : Pos} (hg : Gl X x) (hm : X.mg x = none) (hv : bootBuiltins x = some u) (r : RelV v u) (hn : x ≠ "__name__" := by decide) (hd : (x == ("__debug__" : Str)) = false := by decide) : PE X (.Name x pos) (tC v) :=
 fun _ _ _ H _ I h => zfk I hg hm hv ⟨v, H, I, r, h⟩ hn hd
variable {a b : Expr} {ta tb : TE} {pos : Pos}
noncomputable def tB (t : TE) : TT := fun σ H Q => t σ H fun x H1 => ∃ c, x = .bl c /\ Q c H1
theorem zd9 {e : Expr} {t : TE} (h : PE X e t) (he : ∀ whole, isTrue e X.env whole = (do let v <- whole; standAt e.pos; holding [v] (truthy v)) := by intro _; rfl) : PT X e (tB t) := by
 intro pins s σ H Q I hw
 refine isTrue_plain (thn (h pins s σ H _ I hw) fun v s1 hz9 => ?_) (he _)
 obtain ⟨x, H1, I1, r1, q1⟩ := hz9
 obtain ⟨d, rfl, q⟩ := q1
 cases r1
 exact wpAny_truthy_bool ⟨H1, I1, q⟩
variable {tA tB' : TT} {rest : List Expr}
noncomputable def tAnd (t u : TT) : TT := fun σ H Q => t σ H fun c H1 => if c = true then u σ H1 Q else Q false H1
noncomputable def tOr (t u : TT) : TT := fun σ H Q => t σ H fun c H1 => if c = true then Q true H1 else u σ H1 Q
noncomputable def tNot (t : TT) : TT := fun σ H Q => t σ H fun c H1 => Q (!c) H1
theorem zne (ha : PT X a tA) : PW X (.BoolOp .And [a] pos) tA := by
 intro wh pins s σ H Q I h
 refine isTrue_and (thn (ha pins s σ H Q I h) fun c s1 e => ?_)
 cases c with
 | true => exact isTrue_and_nil e
 | false => exact e
theorem zgx (ha : PT X a tA) : PW X (.BoolOp .Or [a] pos) tA := by
 intro wh pins s σ H Q I h
 refine isTrue_or (thn (ha pins s σ H Q I h) fun c s1 e => ?_)
 cases c with
 | false => exact isTrue_or_nil e
 | true => exact e
theorem zpe (ha : PT X a tA) (hb : PW X (.BoolOp .And (b :: rest) pos) tB') : PW X (.BoolOp .And (a :: b :: rest) pos) (tAnd tA tB') := by
 intro wh pins s σ H Q I h
 refine isTrue_and (thn (ha pins s σ H _ I h) fun c s1 hz9 => ?_)
 obtain ⟨H1, I1, q1⟩ := hz9
 cases c with
 | true => exact hb wh pins s1 σ H1 Q I1 q1
 | false => exact ⟨H1, I1, q1⟩
theorem zib (ha : PT X a tA) (hb : PW X (.BoolOp .Or (b :: rest) pos) tB') : PW X (.BoolOp .Or (a :: b :: rest) pos) (tOr tA tB') := by
 intro wh pins s σ H Q I h
 refine isTrue_or (thn (ha pins s σ H _ I h) fun c s1 hz9 => ?_)
 obtain ⟨H1, I1, q1⟩ := hz9
 cases c with
 | true => exact ⟨H1, I1, q1⟩
 | false => exact hb wh pins s1 σ H1 Q I1 q1
theorem zd4 (ha : PT X a tA) : PT X (.UnaryOp .Not a pos) (tNot tA) := by
 intro pins s σ H Q I h
 exact isTrue_not (ha pins s σ H (fun c H1 => Q (!c) H1) I h)
noncomputable def zol (ta tb : TE) : TE := fun σ H Q => ta σ H fun x H1 => ∃ c, x = .bl c /\ if c = true then tb σ H1 Q else Q (.bl false) H1
noncomputable def tOrV (ta tb : TE) : TE := fun σ H Q => ta σ H fun x H1 => ∃ c, x = .bl c /\ if c = true then Q (.bl true) H1 else tb σ H1 Q
noncomputable def zpj (ta : TE) : TE := fun σ H Q => ta σ H fun x H1 => ∃ c, x = .bl c /\ Q (.bl (!c)) H1
theorem zik {op} {t : TE} (h : PE X a t) : PE X (.BoolOp op [a] pos) t := fun pins s σ H Q I hw => BoolOp_one (h pins s σ H Q I hw)
theorem zha (ha : PE X a ta) (hb : PE X (.BoolOp .And (b :: rest) pos) tb) : PE X (.BoolOp .And (a :: b :: rest) pos) (zol ta tb) := by
 intro pins s σ H Q I h
 refine BoolOp_and (thn (ha pins s σ H _ I h) fun v s1 hz9 => ?_)
 obtain ⟨x, H1, I1, r1, q1⟩ := hz9
 obtain ⟨c, rfl, q1⟩ := q1
 cases r1
 refine wpAny_truthy_bool ?_
 cases c with
 | true => exact hb pins s1 σ H1 Q I1 q1
 | false => exact ⟨.bl false, H1, I1, rfl, q1⟩
theorem zp1 (ha : PE X a ta) (hb : PE X (.BoolOp .Or (b :: rest) pos) tb) : PE X (.BoolOp .Or (a :: b :: rest) pos) (tOrV ta tb) := by
 intro pins s σ H Q I h
 refine BoolOp_or (thn (ha pins s σ H _ I h) fun v s1 hz9 => ?_)
 obtain ⟨x, H1, I1, r1, q1⟩ := hz9
 obtain ⟨c, rfl, q1⟩ := q1
 cases r1
 refine wpAny_truthy_bool ?_
 cases c with
 | false => exact hb pins s1 σ H1 Q I1 q1
 | true => exact ⟨.bl true, H1, I1, rfl, q1⟩
theorem zot (ha : PE X a ta) : PE X (.UnaryOp .Not a pos) (zpj ta) := by
 intro pins s σ H Q I h
 refine UnaryOp_ (thn (ha pins s σ H _ I h) fun v s1 hz9 => ?_)
 obtain ⟨x, H1, I1, r1, q1⟩ := hz9
 obtain ⟨c, rfl, q1⟩ := q1
 cases r1
 exact not_of (wpAny_truthy_bool ⟨.bl (!c), H1, I1, rfl, q1⟩)
noncomputable def tIf (t : TT) (ta tb : TE) : TE := fun σ H Q => t σ H fun c H1 => if c = true then ta σ H1 Q else tb σ H1 Q
theorem ziz {c : Expr} (hc : PT X c tA) (ha : PE X a ta) (hb : PE X b tb) : PE X (.IfExp c a b pos) (tIf tA ta tb) := by
 intro pins s σ H Q I h
 refine wpAny_IfExp (thn (hc pins s σ H _ I h) fun d s1 hz9 => ?_)
 obtain ⟨H1, I1, q1⟩ := hz9
 cases d with
 | true => exact ha pins s1 σ H1 Q I1 q1
 | false => exact hb pins s1 σ H1 Q I1 q1
end
end L2
namespace L2
open PySem PySem.Spec PyProof.Rows
noncomputable def SqL (K : PySem.W.Frag) (H : Hp) (a : Addr) (xs : List V) : Prop :=
 Rd H a (.lst xs) \/
  ∃ (o : Obj) (its : Array Value) (n : Nat), K.lookup a = some o /\ o.cls = .type "list" /\ o.dict = none /\ o.data = .seq its n /\ its.size <= sizeLine /\ Vals xs its.toList
noncomputable def SqT (K : PySem.W.Frag) (H : Hp) (a : Addr) (xs : List V) : Prop :=
 Rd H a (.tup xs) \/
  ∃ (o : Obj) (its : Array Value) (n : Nat), K.lookup a = some o /\ o.cls = .type "tuple" /\ o.data = .seq its n /\ its.size <= sizeLine /\ Vals xs its.toList
noncomputable def absV : Value -> Option V
 | .none => some .non
 | .bool b => some (.bl b)
 | .int i _ => some (.int i)
 | .str x _ => some (.str x)
 | .bytes b _ => some (.byt b)
 | .float b _ => some (.flt b)
 | .ref a => some (.ref a)
 | .type n => some (.ty n)
 | _ => none
theorem RelV.abs {x : V} {u : Value} (r : RelV x u) : absV u = some x := by
 cases x with
 | non => cases r; rfl
 | bl _ => cases r; rfl
 | int _ => obtain ⟨t, rfl⟩ := r; rfl
 | str _ => obtain ⟨t, rfl⟩ := r; rfl
 | byt _ => obtain ⟨t, rfl⟩ := r; rfl
 | flt _ => obtain ⟨t, rfl⟩ := r; rfl
 | ref _ => cases r; rfl
 | ty _ => cases r; rfl
theorem RelV.inj {x y : V} {u : Value} (r : RelV x u) (q : RelV y u) : x = y := Option.some.inj (r.abs.symm.trans q.abs)
theorem Vals.inj : ∀ {xs ys : List V} {us : List Value}, Vals xs us -> Vals ys us -> xs = ys
 | _, _, _, .nil, .nil => rfl
 | _, _, _, .cons r t, .cons r' t' => by rw [r.inj r', Vals.inj t t']
section
variable {X : Cx} {pins : List (Addr × Obj)} {σ : St} {H : Hp} {s : Shared} {a : Addr} {xs ys : List V}
theorem SqL.of {K : PySem.W.Frag} (h : H a = some (.lst xs)) : SqL K H a xs := .inl (.inl h)
theorem SqT.of {K : PySem.W.Frag} (h : H a = some (.tup xs)) : SqT K H a xs := .inl (.inl h)
theorem Inv.list (I : Inv X pins σ H s) (h : SqL X.K H a xs) : ∃ its : List Value, Vals xs its /\ PlainL s.heap a its.toArray /\ xs.length <= sizeLine := by
 rcases h with h | ⟨o, its, n, hk, hc, hd, hs, hz, r⟩
 ·obtain ⟨z, its, n, r, e⟩ := h.ok I.hok
  exact ⟨its, r, ⟨_, n, e, rfl, rfl, rfl⟩, z⟩
 ·refine ⟨its.toList, r, ⟨o, n, I.kIn a o hk, hc, hd, by simpa using hs⟩, ?_⟩
  have e := r.length
  simp only [Array.length_toList] at e
  omega
theorem Inv.tuple (I : Inv X pins σ H s) (h : SqT X.K H a xs) : ∃ its : List Value, Vals xs its /\ IsTup s.heap a its.toArray /\ xs.length <= sizeLine := by
 rcases h with h | ⟨o, its, n, hk, hc, hs, hz, r⟩
 ·obtain ⟨z, its, r, p⟩ := h.ok I.hok
  exact ⟨its, r, p, z⟩
 ·refine ⟨its.toList, r, ⟨o, I.kIn a o hk, hc, n, by simpa using hs⟩, ?_⟩
  have e := r.length
  simp only [Array.length_toList] at e
  omega
theorem Inv.list_inj (I : Inv X pins σ H s) (h : SqL X.K H a xs) (h' : SqL X.K H a ys) : xs = ys := by
 obtain ⟨its, r, ⟨o, n, e, _, _, d⟩, _⟩ := I.list h
 obtain ⟨its', r', ⟨o', n', e', _, _, d'⟩, _⟩ := I.list h'
 rw [e] at e'; cases e'
 rw [d] at d'
 injection d' with d1 _
 have : its = its' := by simpa using congrArg Array.toList d1
 subst this
 exact r.inj r'
end
noncomputable abbrev Cx.wish (X : Cx) (E : Value -> Shared -> Prop) : Cx := { X with xe := E }
noncomputable abbrev Cx.nox (X : Cx) : Cx := X.wish fun _ _ => False
theorem Cx.Ok.wish {X : Cx} (ok : X.Ok) (E : Value -> Shared -> Prop) : (X.wish E).Ok :=
 ⟨ok.mod, ok.kind, ok.glob, ok.blt, ok.above, ok.inj, ok.has, ok.cab, ok.hd, ok.frames, ok.stk, ok.exf, ok.bs, ok.bsz, ok.noex, ok.exfs, ok.funs, ok.frf⟩
theorem Cx.Ok.unwish {X : Cx} {E : Value -> Shared -> Prop} (ok : (X.wish E).Ok) : X.Ok :=
 ⟨ok.mod, ok.kind, ok.glob, ok.blt, ok.above, ok.inj, ok.has, ok.cab, ok.hd, ok.frames, ok.stk, ok.exf, ok.bs, ok.bsz, ok.noex, ok.exfs, ok.funs, ok.frf⟩
section
variable {X : Cx} {pins : List (Addr × Obj)} {σ : St} {H : Hp} {s : Shared} {E : Value -> Shared -> Prop}
theorem Inv.wish (I : Inv X pins σ H s) (E : Value -> Shared -> Prop) : Inv (X.wish E) pins σ H s := ⟨I.ok.wish E, I.os, I.bare, I.base, I.loc, I.cell, I.free, I.freeC, I.pin, I.hok, I.len⟩
theorem Inv.unwish (I : Inv (X.wish E) pins σ H s) : Inv X pins σ H s := ⟨I.ok.unwish, I.os, I.bare, I.base, I.loc, I.cell, I.free, I.freeC, I.pin, I.hok, I.len⟩
theorem SP.unwish {D : Ends} {f : Flow} {s' : Shared} (h : SP (X.wish E) pins D f s') : SP X pins D f s' := by
 cases f with
 | next => obtain ⟨σ', H', I, q⟩ := h; exact ⟨σ', H', I.unwish, q⟩
 | brk => obtain ⟨σ', H', I, q⟩ := h; exact ⟨σ', H', I.unwish, q⟩
 | cont => obtain ⟨σ', H', I, q⟩ := h; exact ⟨σ', H', I.unwish, q⟩
 | ret u => obtain ⟨v, σ', H', I, r, q⟩ := h; exact ⟨v, σ', H', I.unwish, r, q⟩
theorem PSs.nox {st : List Stmt} {t : TS} (h : PSs X.nox st t) : PSs X st t := fun pins s σ H D I hw =>
 wpAny_mono (h pins s σ H D (I.wish _) hw) (fun _ _ q => q.unwish) fun _ _ z => False.elim z
end
section
variable {X : Cx} {st : Stmt} {rest : List Stmt} {t u : TS} {e : Expr} {te : TE} {pos : Pos}
noncomputable def zoc : TS := fun D σ H => D.nx σ H
noncomputable def tSeq (t u : TS) : TS := fun D σ H => t { D with nx := u D } σ H
theorem zbk : PSs X [] zoc := fun _ _ σ H _ I h => wpAny_execs_nil ⟨σ, H, I, h⟩
theorem zae (h1 : PS X st t) (h2 : PSs X rest u) : PSs X (st :: rest) (tSeq t u) := by
 intro pins s σ H D I h
 refine wpAny_execs_cons (thn (h1 pins s σ H { D with nx := u D } I h) fun f s1 q => ?_)
 cases f with
 | next =>
  obtain ⟨σ', H', I', q⟩ := q
  exact h2 pins s1 σ' H' D I' q
 | ret v => exact q
 | brk => exact q
 | cont => exact q
theorem zag (h1 : PS X st t) : PSs X [st] t := by
 intro pins s σ H D I h
 refine wpAny_execs_cons (thn (h1 pins s σ H D I h) fun f s1 q => ?_)
 cases f with
 | next => exact wpAny_execs_nil q
 | ret v => exact q
 | brk => exact q
 | cont => exact q
theorem Inv.quiet {pins : List (Addr × Obj)} {σ : St} {H : Hp} {s : Shared} (I : Inv X pins σ H s) : interactive X.env = false := by simp [interactive, I.ok.kind]
noncomputable def znc (te : TE) : TS := fun D σ H => te σ H fun _ H1 => D.nx σ H1
theorem zeo (he : PE X e te) (hs : swapsWith e none pos.line X.env = pure false := by rfl) : PS X (.Expr e pos) (znc te) := by
 intro pins s σ H D I h
 exact wpAny_Expr_any (thn (he pins s σ H _ I h) fun v s1 ⟨x, H1, I1, r1, q1⟩ => ⟨σ, H1, I1, q1⟩) I.quiet hs
noncomputable def tRet (te : TE) : TS := fun D σ H => te σ H D.rt
theorem za6 (he : PE X e te) : PS X (.Return (some e) pos) (tRet te) := by
 intro pins s σ H D I h
 exact wpAny_Return_some (thn (he pins s σ H _ I h) fun v s1 ⟨x, H1, I1, r1, q1⟩ => ⟨x, σ, H1, I1, r1, q1⟩)
noncomputable def tIfS (c : TT) (t u : TS) : TS := fun D σ H => c σ H fun b H1 => if b = true then t D σ H1 else u D σ H1
theorem zco {c : Expr} {a b : List Stmt} {tc : TT} (hc : PT X c tc) (ha : PSs X a t) (hb : PSs X b u) : PS X (.If c a b pos) (tIfS tc t u) := by
 intro pins s σ H D I h
 refine wpAny_If (thn (hc pins s σ H _ I h) fun d s1 hz9 => ?_)
 obtain ⟨H1, I1, q1⟩ := hz9
 cases d with
 | true => exact ha pins s1 σ H1 D I1 q1
 | false => exact hb pins s1 σ H1 D I1 q1
noncomputable def zpn : TS := fun _ _ _ => False
theorem zf4 : PS X st zpn := fun _ _ _ _ _ _ h => h.elim
end
noncomputable abbrev TG := V -> St -> Hp -> (St -> Hp -> Prop) -> Prop
noncomputable abbrev TGs := List V -> St -> Hp -> (St -> Hp -> Prop) -> Prop
noncomputable def PG (X : Cx) (target : Expr) (t : TG) : Prop :=
 ∀ (pins : List (Addr × Obj)) (s : Shared) (σ : St) (H : Hp) (v : V) (u : Value) (Q : St -> Hp -> Prop), Inv X pins σ H s -> RelV v u -> t v σ H Q ->
  wpAny (model X.prog X.w) X.A (assign target X.env u) (fun _ s' => ∃ σ' H', Inv X pins σ' H' s' /\ Q σ' H') X.xe s
noncomputable def PGs (X : Cx) (ts : List Expr) (t : TGs) : Prop :=
 ∀ (pins : List (Addr × Obj)) (s : Shared) (σ : St) (H : Hp) (vs : List V) (us : List Value) (Q : St -> Hp -> Prop), Inv X pins σ H s -> Vals vs us -> t vs σ H Q ->
  wpAny (model X.prog X.w) X.A (assignInOrder ((assignEach ts X.env).map (·.2)) us) (fun _ s' => ∃ σ' H', Inv X pins σ' H' s' /\ Q σ' H') X.xe s
section
variable {X : Cx} {pos : Pos}
noncomputable def zhq (i : Nat) : TG := fun v σ H Q => Q (σ.set i (some v)) H
theorem zbt {i : Nat} {x : Str} (hN : X.N.Nodup) (hi : X.N[i]? = some x) (hx : Loc X.env.scope x) (hf : X.fn x = true \/ X.env.scope.names.lookup x = some .local := by first | exact .inl rfl | exact .inr rfl | assumption) : PG X (.Name x pos) (zhq i) := by
 intro pins s σ H v u Q I r h
 exact wpAny_assign_Name (zig I hN hi hx r (fun s' I' => ⟨_, H, I', h⟩) hf)
noncomputable def gNil : TGs := fun vs σ H Q => vs = [] /\ Q σ H
noncomputable def znl (t : TG) (u : TGs) : TGs := fun vs σ H Q => ∃ v r, vs = v :: r /\ t v σ H fun σ' H' => u r σ' H' Q
theorem zft : PGs X [] gNil := by
 intro pins s σ H vs us Q I r h
 obtain ⟨e, h⟩ := h
 subst e
 cases r
 exact assignInOrder_nil ⟨σ, H, I, h⟩
theorem zby {e : Expr} {es : List Expr} {t : TG} {u : TGs} (h1 : PG X e t) (h2 : PGs X es u)
  (hs : (assignEach (e :: es) X.env).map (·.2) = assign e X.env :: (assignEach es X.env).map (·.2) := by rfl) : PGs X (e :: es) (znl t u) := by
 intro pins s σ H vs us Q I r h
 obtain ⟨v, vr, e1, h⟩ := h
 subst e1
 cases r with
 | cons r rr =>
  rw [hs]
  refine assignInOrder_cons (thn (h1 pins s σ H _ _ _ I r h) fun _ s1 hz9 => ?_)
  obtain ⟨σ1, H1, I1, q1⟩ := hz9
  exact h2 pins s1 σ1 H1 _ _ Q I1 rr q1
noncomputable def gTup (K : PySem.W.Frag) (n : Nat) (t : TGs) : TG := fun v σ H Q => ∃ a xs, v = .ref a /\ SqT K H a xs /\ xs.length = n /\ t xs σ H Q
theorem zix {es : List Expr} {k : Nat} {t : TGs} {n : Nat} (hc : X.calm = true) (h : PGs X es t)
  (hn : (assignEach es X.env).length = n := by rfl) (hst : (assignEach es X.env).findIdx? (·.1) = none := by rfl) : PG X (.Tuple es k pos) (gTup X.K n t) := by
 intro pins s σ H v u Q I r hw
 obtain ⟨a, xs, e1, hq, hl, hw⟩ := hw
 subst e1
 cases r
 obtain ⟨its, rv, ht, hz⟩ := I.tuple hq
 refine assign_Tuple_tuple (I.ok.hd hc) ht (by simp [hn, <- hl, rv.length]) hst fun h' hx => ?_
 have I1 : Inv X pins σ H { s with heap := h' } := I.kept (t':=s.toks) fun b o e => hx b o (Nat.ne_of_lt (Heap.lt_size e)) e
 exact h pins _ σ H xs _ Q I1 (by simpa using rv) hw
noncomputable def tAsg (te : TE) (g : TG) : TS := fun D σ H => te σ H fun x H1 => g x σ H1 D.nx
theorem zpb {tg e : Expr} {te : TE} {g : TG} (he : PE X e te) (hg : PG X tg g) (hs : swapsWithSole [tg] e pos.line X.env = pure false := by rfl) (hw : swappedStores [tg] e X.env = pure none := by rfl)
  (h1 : (assignEach [tg] X.env).map (·.2) = [assign tg X.env] := by rfl) : PS X (.Assign [tg] e pos) (tAsg te g) := by
 intro pins s σ H D I h
 refine wpAny_Assign_stores (thn (he pins s σ H _ I h) fun v s1 hz9 => ?_) hs hw
 obtain ⟨x, H1, I1, r1, q1⟩ := hz9
 rw [h1]
 exact thn (hg pins s1 σ H1 x v _ I1 r1 q1) fun _ s2 q => q
theorem zbq {i : Nat} {x : Str} {e : Expr} {te : TE} {pos' : Pos} (hN : X.N.Nodup) (hi : X.N[i]? = some x) (hx : Loc X.env.scope x) (he : PE X e te) (hs : swapsWith e (some (.Name x pos')) pos.line X.env = pure false := by rfl) (hf : X.fn x = true \/ X.env.scope.names.lookup x = some .local := by first | exact .inl rfl | exact .inr rfl | assumption) :
  PS X (.Assign [.Name x pos'] e pos) (tAsg te (zhq i)) := by
 intro pins s σ H D I h
 refine wpAny_Assign_Name (thn (he pins s σ H _ I h) fun v s1 hz9 => ?_) hs
 obtain ⟨y, H1, I1, r1, q1⟩ := hz9
 exact zig I1 hN hi hx r1 (fun s2 I2 => ⟨_, H1, I2, q1⟩) hf
end
structure It where
 go : Nat -> Hp -> Prop
 yld : Nat -> Hp -> V -> Hp -> Prop
 stop : Nat -> Hp -> Prop
noncomputable def FpOk (X : Cx) (pins : List (Addr × Obj)) (H : Hp) (b : Addr) : Prop :=
 H b = none /\ b ≠ X.env.locals /\ b ∉ X.fs /\ (b ∈ X.ex \/ X.s₀.heap.objs.size <= b) /\ (∀ x c, X.env.cells.lookup x = some c -> c ≠ b) /\ ∀ p ∈ X.pn ++ pins, p.1 ≠ b
theorem Inv.fpOk {X : Cx} {pins : List (Addr × Obj)} {σ : St} {H H' : Hp} {s : Shared} {b : Addr} (I : Inv X pins σ H s) (hb : s.heap.objs.size <= b) (hn : H' b = none) : FpOk X pins H' b := by
 refine ⟨hn, Nat.ne_of_gt (Nat.lt_of_lt_of_le I.lt hb), I.nofs hb, .inr (Nat.le_trans I.sz hb), fun x c e z => ?_, fun p hp z => ?_⟩
 ·obtain ⟨v, q⟩ := I.cell x c e
  exact absurd (Nat.lt_of_lt_of_le q.lt (by rw [z]; exact hb)) (Nat.lt_irrefl _)
 ·exact absurd (Nat.lt_of_lt_of_le (Heap.lt_size (I.pin p hp).1) (by rw [z]; exact hb)) (Nat.lt_irrefl _)
structure Turn (P : Program) (w : World) (K : PySem.W.Frag) (tg : Expr) (J : It) (fp : List Addr) (it : Addr) (tn : Nat -> Heap -> Prop) : Prop where
 mem : it ∈ fp
 obj : ∀ i h, tn i h -> ∀ b ∈ fp, ∃ o, h.get? b = some o /\ ∀ v, o.data ≠ .cell v
 keep : ∀ i h h', tn i h -> (∀ b ∈ fp, ∀ o, h.get? b = some o -> h'.get? b = some o) -> tn i h'
 item : ∀ (X : Cx), X.prog = P -> X.w = w -> X.K = K -> X.calm = true -> ∀ (i : Nat) (pins : List (Addr × Obj)) (s : Shared) (σ : St) (H : Hp) (E : Value -> Shared -> Prop), Inv X pins σ H s -> (∀ b ∈ fp, FpOk X pins H b) -> tn i s.heap -> J.go i H ->
  wpAny (model P w) X.A (pyNext (.ref it)) (fun r s1 => ∃ u, r = some u /\
   wpAny (model P w) X.A (letOwnedTupleGo tg (.ref it) u) (fun _ s2 => ∃ x H', Inv X pins σ H' s2 /\ RelV x u /\ J.yld i H x H' /\ tn (i + 1) s2.heap /\ ∀ b ∈ fp, H' b = none) E s1) E s
 done : ∀ (X : Cx), X.prog = P -> X.w = w -> X.K = K -> X.calm = true -> ∀ (i : Nat) (pins : List (Addr × Obj)) (s : Shared) (σ : St) (H : Hp) (E : Value -> Shared -> Prop), Inv X pins σ H s -> (∀ b ∈ fp, FpOk X pins H b) -> tn i s.heap -> J.stop i H ->
  wpAny (model P w) X.A (pyNext (.ref it)) (fun r s1 => r = none /\ Inv X pins σ H s1) E s
 self : ∀ (A : Around) (i : Nat) (s : Shared) (Q : Value -> Shared -> Prop) (E : Value -> Shared -> Prop), tn i s.heap -> Q (.ref it) s -> wpAny (model P w) A (pyIter (.ref it)) Q E s
noncomputable abbrev TI := St -> Hp -> (It -> Hp -> Prop) -> Prop
noncomputable def PIE (X : Cx) (pins : List (Addr × Obj)) (σ : St) (tg : Expr) (R : It -> Hp -> Prop) (itv : Value) (s2 : Shared) : Prop :=
 ∃ (it : Addr) (fp : List Addr) (tn : Nat -> Heap -> Prop) (J : It) (H' : Hp), itv = .ref it /\ Inv X pins σ H' s2 /\ Turn X.prog X.w X.K tg J fp it tn /\ tn 0 s2.heap /\ (∀ b ∈ fp, FpOk X pins H' b) /\ R J H'
noncomputable def PI (X : Cx) (tg iter : Expr) (wi : TI) : Prop :=
 ∀ (pins : List (Addr × Obj)) (s : Shared) (σ : St) (H : Hp) (R : It -> Hp -> Prop), Inv X pins σ H s -> wi σ H R ->
  wpAny (model X.prog X.w) X.A (eval iter X.env) (fun v s1 => wpAny (model X.prog X.w) X.A (pyIter v) (PIE X pins σ tg R) X.xe s1) X.xe s
theorem znu {M : Model} {A : Around} {E : Value -> Shared -> Prop} {s : Shared} {tg : Expr} {it : Addr} {u : Value} {o : Obj} {n : String} {vs : Array Value} {Q : Unit -> Shared -> Prop} (ho : s.heap.get? it = some o) (hc : o.cls = .type n) (hd : o.data = .fields vs)
    (hn : ["enumerate", "zip", "dict_itemiterator", "dict_reverseitemiterator", "odict_iterator", "itertools.zip_longest", "itertools.pairwise"].contains n = false) (hQ : Q () s) : wpAny M A (letOwnedTupleGo tg (.ref it) u) Q E s := by
  unfold letOwnedTupleGo
  cases tg <;> first
    | exact wpAny_pure hQ
    | (cases u <;> first
        | exact wpAny_pure hQ
        | (refine wpAny_bind (wpAny_load ho ?_)
           rw [hc, hd]
           show wpAny M A (if (["enumerate", "zip", "dict_itemiterator", "dict_reverseitemiterator", "odict_iterator", "itertools.zip_longest", "itertools.pairwise"].contains n && vs[0]? == some (rawInt _)) = true then _ else _) Q E s
           rw [if_neg (by intro h; rw [hn, Bool.false_and] at h; cases h)]
           exact wpAny_pure hQ))
noncomputable def Itl (K : PySem.W.Frag) (a : Addr) : It :=
 ⟨fun i H => ∃ xs x, SqL K H a xs /\ xs[i]? = some x, fun i H x H' => H' = H /\ ∀ xs, SqL K H a xs -> xs[i]? = some x, fun i H => ∃ xs, SqL K H a xs /\ xs.length <= i⟩
noncomputable def Itr (lo : Int) (n : Nat) : It := ⟨fun i _ => i < n, fun i H x H' => H' = H /\ x = .int (lo + i), fun i _ => n <= i⟩
theorem zk8 {P : Program} {w : World} {K : PySem.W.Frag} {tg : Expr} (a it : Addr) : Turn P w K tg (Itl K a) [it] it (fun i h => h.IsListIter it a i) where
 mem := by simp
 obj := fun i h st b hb => by
  have e : b = it := by simpa using hb
  subst e
  obtain ⟨o, e, c, d⟩ := st
  exact ⟨o, e, fun v z => by rw [d] at z; cases z⟩
 keep := fun i h h' st k => st.at fun o e => k it (by simp) o e
 item := by
  intro X hP hw hK hc i pins s σ H E I hf st hg
  subst hP hw hK
  obtain ⟨xs, x, hq, hx⟩ := hg
  obtain ⟨its, rv, p, hz⟩ := I.list hq
  obtain ⟨u, hu, ru⟩ := rv.get hx
  obtain ⟨f0, f1, f2, f3, f4, f5⟩ := hf it (by simp)
  refine wpAny_pyNext_list_item st p.isList (x:=u) (by simpa using hu) fun h' st' sb => ?_
  have I1 : Inv X pins σ H { s with heap := h' } := I.turned (t':=s.toks) (fun b o hb e => (sb.2 b hb).trans e) f0 f1 f3 f4 f5
  obtain ⟨o, e, c, d⟩ := id st'
  exact ⟨u, rfl, znu (s:={ s with heap := h' }) e c d (by decide) ⟨x, H, I1, ru, ⟨rfl, fun ys hy => by rw [I.list_inj hy hq]; exact hx⟩, st', fun b hb => (hf b hb).1⟩⟩
 done := by
  intro X hP hw hK hc i pins s σ H E I hf st hg
  subst hP hw hK
  obtain ⟨xs, hq, hx⟩ := hg
  obtain ⟨its, rv, p, hz⟩ := I.list hq
  obtain ⟨f0, f1, f2, f3, f4, f5⟩ := hf it (by simp)
  have hl := rv.length
  exact wpAny_pyNext_list_end (I.ok.hd hc) st p.isList (by simp; omega) fun h' eb => ⟨rfl, I.turned (t':=s.toks) (fun b o hb e => eb b o hb e) f0 f1 f3 f4 f5⟩
 self := fun _ _ _ _ _ st h => wpAny_pyIter_listiter st h
theorem zi6 {P : Program} {w : World} {K : PySem.W.Frag} {tg : Expr} (it : Addr) (lo : Int) (n : Nat) : Turn P w K tg (Itr lo n) [it] it (fun i h => IsRangeIter h it (lo + (i : Nat) * 1) ((n : Int) - (i : Nat)) 1) where
 mem := by simp
 obj := fun i h st b hb => by
  have e : b = it := by simpa using hb
  subst e
  exact ⟨_, st, fun v z => by
   have z' : Data.fields _ = Data.cell v := z
   cases z'⟩
 keep := fun i h h' st k => k it (by simp) _ st
 item := by
  intro X hP hw hK hc i pins s σ H E I hf st hg
  subst hP hw hK
  obtain ⟨f0, f1, f2, f3, f4, f5⟩ := hf it (by simp)
  have W := Walks.range (prog:=X.prog) (w:=X.w) (I.ok.hd hc) it lo 1 n
  refine W.item i s _ _ hg st fun v h' tk hv st' kk => ?_
  obtain ⟨t, rfl⟩ := hv
  have I1 : Inv X pins σ H { s with heap := h', toks := tk } := I.turned (fun b o hb e => kk b o (by simpa using hb) e) f0 f1 f3 f4 f5
  refine ⟨_, rfl, znu (s:={ s with heap := h', toks := tk }) (n:="range_iterator") st' rfl rfl (by decide) ⟨.int (lo + i), H, I1, ⟨t, ?_⟩, ⟨rfl, rfl⟩, st', fun b hb => (hf b hb).1⟩⟩
  rw [Int.mul_one]
 done := by
  intro X hP hw hK hc i pins s σ H E I hf st hg
  subst hP hw hK
  obtain ⟨f0, f1, f2, f3, f4, f5⟩ := hf it (by simp)
  exact wpAny_pyNext_range_end (I.ok.hd hc) st (by have : n <= i := hg; omega) fun h' eb => ⟨rfl, I.turned (t':=s.toks) (fun b o hb e => eb b o hb e) f0 f1 f3 f4 f5⟩
 self := fun _ _ _ _ _ st h => wpAny_pyIter_rangeiter st h
end L2
namespace L2
open PySem PySem.Spec PyProof.Rows
section
variable {X : Cx} {tg : Expr}
noncomputable def zjy (K : PySem.W.Frag) (tl : TE) : TI := fun σ H R => tl σ H fun x H1 => ∃ a, x = .ref a /\ (∃ xs, SqL K H1 a xs) /\ R (Itl K a) H1
theorem zh5 {l : Expr} {tl : TE} (hl : PE X l tl) : PI X tg l (zjy X.K tl) := by
 intro pins s σ H R I h
 refine thn (hl pins s σ H _ I h) fun v s1 hz9 => ?_
 obtain ⟨x, H1, I1, r1, q1⟩ := hz9
 obtain ⟨a, e, ⟨xs, hq⟩, q⟩ := q1
 subst e
 cases r1
 obtain ⟨its, rv, p, hz⟩ := I1.list hq
 refine wpAny_pyIter_list p.isList ?_
 refine ⟨s1.heap.objs.size, [s1.heap.objs.size], _, _, H1, rfl, I1.kept (t':=s1.toks) fun b o e => Heap.get?_push_of_some _ e, zk8 a _, ⟨_, Heap.get?_push_size _ rfl, rfl, rfl⟩, fun b hb => ?_, q⟩
 have e : b = s1.heap.objs.size := by simpa using hb
 subst e
 exact I1.fpOk (Nat.le_refl _) (I1.hok.fresh (Nat.le_refl _))
theorem zlf {pins : List (Addr × Obj)} {σ : St} {H : Hp} {s : Shared} {R : It -> Hp -> Prop} {E : Value -> Shared -> Prop} {lo hi : Int} {t u v : Tok} {tk : Nat} (I : Inv X pins σ H s) (h1 : -(2 ^ 62) <= lo) (h2 : lo < 2 ^ 62) (h3 : -(2 ^ 62) <= hi) (h4 : hi < 2 ^ 62)
  (q : R (Itr lo (hi - lo).toNat) H) : wpAny (model X.prog X.w) X.A (pyIter (.ref s.heap.objs.size)) (PIE X pins σ tg R) E { s with heap := s.heap.push { cls := .type "range", data := .fields #[.int lo t, .int hi u, .int 1 v] }, toks := tk } := by
 refine wpAny_pyIter_range (IsRange.new ..) (small_one h1 h2 h3 h4) ?_
 have I1 : Inv X pins σ H { s with heap := s.heap.push { cls := .type "range", data := .fields #[.int lo t, .int hi u, .int 1 v] }, toks := tk } := I.kept fun b o e => Heap.get?_push_of_some _ e
 refine ⟨(s.heap.push { cls := .type "range", data := .fields #[.int lo t, .int hi u, .int 1 v] }).objs.size, [(s.heap.push { cls := .type "range", data := .fields #[.int lo t, .int hi u, .int 1 v] }).objs.size], _, _, H, rfl,
  I1.kept (t':=tk) fun b o e => Heap.get?_push_of_some _ e, zi6 _ lo (hi - lo).toNat, ?_, fun b hb => ?_, q⟩
 ·have e1 : lo + ((0 : Nat) : Int) * 1 = lo := by simp
  have e2 : (((hi - lo).toNat : Nat) : Int) - ((0 : Nat) : Int) = Builtin.Range.rangeSize lo hi 1 := by rw [rangeSize_one]; split <;> omega
  show IsRangeIter _ _ (lo + ((0 : Nat) : Int) * 1) ((((hi - lo).toNat : Nat) : Int) - ((0 : Nat) : Int)) 1
  rw [e1, e2]
  exact Heap.get?_push_size _ rfl
 ·have e : b = (s.heap.push { cls := .type "range", data := .fields #[.int lo t, .int hi u, .int 1 v] }).objs.size := by simpa using hb
  subst e
  exact I1.fpOk (Nat.le_refl _) (I1.hok.fresh (Nat.le_refl _))
noncomputable def zpv (ta : TA) : TI := fun σ H R => ta σ H fun vs H1 => ∃ j : Int, vs = [.int j] /\ -(2 ^ 62) <= j /\ j < 2 ^ 62 /\ R (Itr 0 j.toNat) H1
theorem zkl {a : Expr} {ta : TA} {p pos : Pos} (hg : Gl X "range") (hm : X.mg "range" = none) (ha : PA X [a] ta) (hs : starEach [a] X.env = [(false, eval a X.env)] := by rfl) : PI X tg (.Call (.Name "range" p) [a] [] pos) (zpv ta) := by
 intro pins s σ H R I h
 refine Call_ (zfk I hg hm boot_range (PyProof.Rows.callWith_type1 (thn (ha pos pins s σ H _ I h) fun us s1 hz9 => ?_) hs rfl))
 obtain ⟨vs, H1, I1, r1, q1⟩ := hz9
 obtain ⟨j, e, q1, q2, q⟩ := q1
 subst e
 cases r1 with
 | cons r rr =>
  cases rr
  obtain ⟨t, rfl⟩ := r
  exact call_range_1 (zlf I1 (by omega) (by omega) q1 q2 (by simpa using q))
noncomputable def tFor (wi : TI) (g : TG) (tb : TS) : TS := fun D σ H => wi σ H fun J H1 => ∃ W : Nat -> Nat -> St -> Hp -> Prop, (∃ m, W 0 m σ H1) /\ ∀ i m σ H, W i m σ H ->
 (J.stop i H /\ D.nx σ H) \/ (J.go i H /\ ∃ N : St -> Hp -> Prop, (∀ σ' H', N σ' H' -> ∃ m', m' < m /\ W (i + 1) m' σ' H') /\ ∀ x H', J.yld i H x H' -> g x σ H' fun σ2 H2 => tb { D with nx := N, ct := N, bk := D.nx } σ2 H2)
noncomputable def zhm (fp : List Addr) (h : Heap) : List (Addr × Obj) := fp.filterMap fun b => (h.get? b).map fun o => (b, o)
theorem zcz {fp : List Addr} {h : Heap} {b : Addr} {o : Obj} (hb : b ∈ fp) (e : h.get? b = some o) : (b, o) ∈ zhm fp h := List.mem_filterMap.mpr ⟨b, hb, by rw [e]; rfl⟩
theorem zkg {fp : List Addr} {h : Heap} {p : Addr × Obj} (hp : p ∈ zhm fp h) : p.1 ∈ fp /\ h.get? p.1 = some p.2 := by
 obtain ⟨b, hb, e⟩ := List.mem_filterMap.mp hp
 cases q : h.get? b with
 | none => rw [q] at e; cases e
 | some o =>
  rw [q] at e
  have e' : (b, o) = p := Option.some.inj e
  subst e'
  exact ⟨hb, q⟩
theorem Inv.pinned {pins : List (Addr × Obj)} {σ : St} {H : Hp} {s : Shared} {fp : List Addr} (I : Inv X pins σ H s) (hf : ∀ b ∈ fp, FpOk X pins H b) (ho : ∀ b ∈ fp, ∃ o, s.heap.get? b = some o /\ ∀ v, o.data ≠ .cell v) : Inv X (pins ++ zhm fp s.heap) σ H s :=
 I.pins_of fun p hp => (List.mem_append.mp hp).elim (fun z => I.pin p (List.mem_append_right _ z)) fun z => by
  obtain ⟨hb, e⟩ := zkg z
  obtain ⟨f0, f1, f2, _⟩ := hf p.1 hb
  obtain ⟨o, e', d⟩ := ho p.1 hb
  rw [e] at e'; cases e'
  exact ⟨e, f0, f1, f2, d⟩
theorem Inv.unpinned {pins pl : List (Addr × Obj)} {σ : St} {H : Hp} {s : Shared} (I : Inv X (pins ++ pl) σ H s) : Inv X pins σ H s := I.pins_of fun p hp => I.pin p (List.mem_append_right _ (List.mem_append_left _ hp))
theorem zj4 {iter : Expr} {body : List Stmt} {wi : TI} {g : TG} {tb : TS} {pos : Pos} (hp : PassesOwn (model X.prog X.w) X.A X.env X.xe) (hc : X.calm = true) (hi : PI X tg iter wi) (hg : PG X tg g) (hb : PSs X body tb)
  (hs : ∀ x, foldedSetIterable iter X.env x = pure x := by intro _; rfl) : PS X (.For tg iter body [] pos) (tFor wi g tb) := by
 intro pins s σ H D I h
 refine wpAny_For (thn (hi pins s σ H _ I h) fun v s1 h1 => thn h1 fun itv s2 h2 => ?_) hs
 obtain ⟨it, fp, tn, J, H2, e, I2, T, st2, f2, W, ⟨m0, w0⟩, turn⟩ := h2
 subst e
 -- what stays true of the iterator's objects through the loop
 have stat : ∀ {H' : Hp}, (∀ b ∈ fp, H' b = none) -> ∀ b ∈ fp, FpOk X pins H' b := fun hn b hb => ⟨hn b hb, (f2 b hb).2⟩
 refine codeAny_forLoop_any (fun n s' => ∃ i σ' H', Inv X pins σ' H' s' /\ tn i s'.heap /\ (∀ b ∈ fp, H' b = none) /\ W i n σ' H') ?_ m0 ⟨0, σ, H2, I2, st2, fun b hb => (f2 b hb).1, w0⟩
 rintro n s3 ⟨i, σ3, H3, I3, st3, fr3, w3⟩
 rcases turn i n σ3 H3 w3 with ⟨stop, qn⟩ | ⟨go, N, hN, step⟩
 ·refine wpAny_passesOwn hp (thn (T.done X rfl rfl rfl hc i pins s3 σ3 H3 X.xe I3 (stat fr3) st3 stop) fun r s4 hz9 => ?_)
  obtain ⟨hr, I4⟩ := hz9
  subst hr
  exact wpAny_execs_nil ⟨σ3, H3, I4, qn⟩
 ·refine wpAny_passesOwn hp (thn (T.item X rfl rfl rfl hc i pins s3 σ3 H3 X.xe I3 (stat fr3) st3 go) fun r s4 hz9 => ?_)
  obtain ⟨u, hr, h4⟩ := hz9
  subst hr
  refine wpAny_passesOwn hp (thn h4 fun _ s5 hz9 => ?_)
  obtain ⟨x, H5, I5, r5, y5, st5, fr5⟩ := hz9
  have I5' := I5.pinned (stat fr5) (T.obj _ _ st5)
  refine wpAny_passesOwn hp (thn (hg _ s5 σ3 H5 x u _ I5' r5 (step x H5 y5)) fun _ s6 hz9 => ?_)
  obtain ⟨σ6, H6, I6, q6⟩ := hz9
  refine wpAny_passesOwn hp (thn (hb _ s6 σ6 H6 _ I6 q6) fun f s7 q7 => ?_)
  have again : ∀ {σ7 : St} {H7 : Hp}, Inv X (pins ++ zhm fp s5.heap) σ7 H7 s7 -> N σ7 H7 -> ∃ m, m < n /\ ∃ i σ' H', Inv X pins σ' H' s7 /\ tn i s7.heap /\ (∀ b ∈ fp, H' b = none) /\ W i m σ' H' := fun {σ7 H7} I7 n7 => by
   obtain ⟨m', hm, w7⟩ := hN σ7 H7 n7
   refine ⟨m', hm, i + 1, σ7, H7, I7.unpinned, T.keep _ _ _ st5 fun b hb o e => (I7.pin (b, o) (List.mem_append_right _ (List.mem_append_right _ (zcz hb e)))).1, fun b hb => ?_, w7⟩
   obtain ⟨o, e, d⟩ := T.obj _ _ st5 b hb
   exact (I7.pin (b, o) (List.mem_append_right _ (List.mem_append_right _ (zcz hb e)))).2.1
  cases f with
  | next => obtain ⟨σ7, H7, I7, n7⟩ := q7; exact again I7 n7
  | cont => obtain ⟨σ7, H7, I7, n7⟩ := q7; exact again I7 n7
  | brk => obtain ⟨σ7, H7, I7, q7⟩ := q7; exact ⟨σ7, H7, I7.unpinned, q7⟩
  | ret v => obtain ⟨x7, σ7, H7, I7, r7, q7⟩ := q7; exact ⟨x7, σ7, H7, I7.unpinned, r7, q7⟩
end
end L2
namespace L2
open PySem PySem.Spec PyProof.Rows
noncomputable abbrev R2 := V -> V -> Hp -> VK -> Prop
noncomputable def OpR (X : Cx) (f : Value -> Value -> Sem Value) (r : R2) : Prop :=
 ∀ (pins : List (Addr × Obj)) (s : Shared) (σ : St) (H : Hp) (x y : V) (v u : Value) (Q : VK), Inv X pins σ H s -> RelV x v -> RelV y u -> r x y H Q ->
  wpAny (model X.prog X.w) X.A (f v u) (EP X pins σ Q) X.xe s
noncomputable def UnR (X : Cx) (f : Value -> Sem Value) (r : V -> Hp -> VK -> Prop) : Prop :=
 ∀ (pins : List (Addr × Obj)) (s : Shared) (σ : St) (H : Hp) (x : V) (v : Value) (Q : VK), Inv X pins σ H s -> RelV x v -> r x H Q ->
  wpAny (model X.prog X.w) X.A (f v) (EP X pins σ Q) X.xe s
noncomputable def zb2 (X : Cx) (f : Value) (r : List V -> Hp -> VK -> Prop) : Prop :=
 ∀ (pins : List (Addr × Obj)) (s : Shared) (σ : St) (H : Hp) (xs : List V) (us : List Value) (Q : VK), Inv X pins σ H s -> Vals xs us -> r xs H Q ->
  wpAny (model X.prog X.w) X.A (call f us) (EP X pins σ Q) X.xe s
noncomputable def tOp (r : R2) (ta tb : TE) : TE := fun σ H Q => ta σ H fun x H1 => tb σ H1 fun y H2 => r x y H2 Q
noncomputable def tUn (r : V -> Hp -> VK -> Prop) (ta : TE) : TE := fun σ H Q => ta σ H fun x H1 => r x H1 Q
noncomputable def rI (C : Int -> Int -> Prop) (g : Int -> Int -> V) : R2 := fun x y H Q => ∃ i j, x = .int i /\ y = .int j /\ C i j /\ Q (g i j) H
noncomputable def rI0 (g : Int -> Int -> V) : R2 := fun x y H Q => ∃ i j, x = .int i /\ y = .int j /\ Q (g i j) H
noncomputable def rU (g : Int -> V) : V -> Hp -> VK -> Prop := fun x H Q => ∃ i, x = .int i /\ Q (g i) H
section
variable {X : Cx} {a b c : Expr} {ta tb tc : TE} {pos : Pos}
theorem binT (ha : PE X a ta) (hb : PE X b tb) {pins : List (Addr × Obj)} {s : Shared} {σ : St} {H : Hp} {R : V -> V -> Hp -> Prop} (I : Inv X pins σ H s)
  (h : ta σ H fun x H1 => tb σ H1 fun y H2 => R x y H2) {Q : Value -> Shared -> Prop} {f : Value -> Value -> Sem Value}
  (hf : ∀ v u s2 x y H2, Inv X pins σ H2 s2 -> RelV x v -> RelV y u -> R x y H2 -> wpAny (model X.prog X.w) X.A (f v u) Q X.xe s2) :
  wpAny (model X.prog X.w) X.A (eval a X.env) (fun v s₁ => wpAny (model X.prog X.w) X.A (eval b X.env) (fun u s₂ => wpAny (model X.prog X.w) X.A (f v u) Q X.xe s₂) X.xe s₁) X.xe s := by
 refine thn (ha pins s σ H _ I h) fun v s1 hz9 => ?_
 obtain ⟨x, H1, I1, r1, q1⟩ := hz9
 refine thn (hb pins s1 σ H1 _ I1 q1) fun u s2 hz9 => ?_
 obtain ⟨y, H2, I2, r2, q2⟩ := hz9
 exact hf v u s2 x y H2 I2 r1 r2 q2
theorem zcg {op : Operator} {r : R2} (ho : OpR X (binaryOp op) r) (ha : PE X a ta) (hb : PE X b tb) : PE X (.BinOp a op b pos) (tOp r ta tb) := by
 intro pins s σ H Q I h
 exact wpAny_BinOp (binT ha hb I h fun v u s2 x y H2 I2 rx ry q => ho pins s2 σ H2 x y v u Q I2 rx ry q)
theorem zpq {op : UnaryOp} {r : V -> Hp -> VK -> Prop} (ho : UnR X (unaryOp op) r) (ha : PE X a ta) : PE X (.UnaryOp op a pos) (tUn r ta) := by
 intro pins s σ H Q I h
 exact UnaryOp_ (thn (ha pins s σ H _ I h) fun v s1 ⟨x, H1, I1, r1, q1⟩ => ho pins s1 σ H1 x v Q I1 r1 q1)
theorem opI {f : Value -> Value -> Sem Value} {C : Int -> Int -> Prop} {g : Int -> Int -> Int}
  (rule : ∀ (i j : Int) (t u : Tok) (s : Shared) (Q : Value -> Shared -> Prop) (E : Value -> Shared -> Prop), C i j -> Q (.int (g i j) s.toks) { s with toks := s.toks + 1 } -> wpAny (model X.prog X.w) X.A (f (.int i t) (.int j u)) Q E s) :
  OpR X f (rI C fun i j => .int (g i j)) := by
 intro pins s σ H x y v u Q I rx ry h
 obtain ⟨i, j, rfl, rfl, hc, q⟩ := h
 obtain ⟨t, rfl⟩ := rx
 obtain ⟨t', rfl⟩ := ry
 exact rule i j t t' s _ _ hc ⟨.int (g i j), H, I.tok _, ⟨_, rfl⟩, q⟩
theorem opI0 {f : Value -> Value -> Sem Value} {g : Int -> Int -> Int}
  (rule : ∀ (i j : Int) (t u : Tok) (s : Shared) (Q : Value -> Shared -> Prop) (E : Value -> Shared -> Prop), Q (.int (g i j) s.toks) { s with toks := s.toks + 1 } -> wpAny (model X.prog X.w) X.A (f (.int i t) (.int j u)) Q E s) :
  OpR X f (rI0 fun i j => .int (g i j)) := by
 intro pins s σ H x y v u Q I rx ry h
 obtain ⟨i, j, rfl, rfl, q⟩ := h
 obtain ⟨t, rfl⟩ := rx
 obtain ⟨t', rfl⟩ := ry
 exact rule i j t t' s _ _ ⟨.int (g i j), H, I.tok _, ⟨_, rfl⟩, q⟩
theorem opB0 {f : Value -> Value -> Sem Value} {g : Int -> Int -> Bool}
  (rule : ∀ (i j : Int) (t u : Tok) (s : Shared) (Q : Value -> Shared -> Prop) (E : Value -> Shared -> Prop), Q (.bool (g i j)) s -> wpAny (model X.prog X.w) X.A (f (.int i t) (.int j u)) Q E s) :
  OpR X f (rI0 fun i j => .bl (g i j)) := by
 intro pins s σ H x y v u Q I rx ry h
 obtain ⟨i, j, rfl, rfl, q⟩ := h
 obtain ⟨t, rfl⟩ := rx
 obtain ⟨t', rfl⟩ := ry
 exact rule i j t t' s _ _ ⟨.bl (g i j), H, I, rfl, q⟩
noncomputable def CDiv (i j : Int) : Prop := 0 < j /\ j < 1073741824
noncomputable def CPow (i j : Int) : Prop := 0 <= j /\ j <= 1000000 /\ i.natAbs < 2 ^ 64
theorem zpo : OpR X (binaryOp .Add) (rI0 fun i j => .int (i + j)) := opI0 fun _ _ _ _ _ _ _ q => add_int q
theorem zpc : OpR X (binaryOp .Sub) (rI0 fun i j => .int (i - j)) := opI0 fun _ _ _ _ _ _ _ q => sub_int q
theorem zdk : OpR X (binaryOp .FloorDiv) (rI CDiv fun i j => .int (i / j)) := opI fun i j _ _ _ _ _ hc q => by
 have h1 : (0 : Int) < j := hc.1
 have h2 : j < 1073741824 := hc.2
 exact floordiv_int (by omega) (by rw [Int.fdiv_eq_ediv_of_nonneg i (by omega)]; exact q) (.inl (PyProof.noPylong_small (by omega)))
theorem zdy : OpR X (binaryOp .Mod) (rI (fun _ j => 0 < j) fun i j => .int (i % j)) := opI fun i j _ _ _ _ _ hc q => by
 have h1 : (0 : Int) < j := hc
 exact mod_int' (by omega) (by rw [Int.fmod_eq_emod_of_nonneg i (by omega)]; exact q)
theorem zmm : OpR X (binaryOp .Pow) (rI CPow fun i j => .int (i ^ j.toNat)) := opI fun _ _ _ _ _ _ _ hc q => pow_int_small hc.1 hc.2.1 hc.2.2 q
theorem unI {f : Value -> Sem Value} {g : Int -> Int}
  (rule : ∀ (i : Int) (t : Tok) (s : Shared) (Q : Value -> Shared -> Prop) (E : Value -> Shared -> Prop), Q (.int (g i) s.toks) { s with toks := s.toks + 1 } -> wpAny (model X.prog X.w) X.A (f (.int i t)) Q E s) :
  UnR X f (rU fun i => .int (g i)) := by
 intro pins s σ H x v Q I rx h
 obtain ⟨i, rfl, q⟩ := h
 obtain ⟨t, rfl⟩ := rx
 exact rule i t s _ _ ⟨.int (g i), H, I.tok _, ⟨_, rfl⟩, q⟩
theorem zow : UnR X (unaryOp .USub) (rU fun i => .int (-i)) := unI fun _ _ _ _ _ q => neg_int q
end
noncomputable def scal : V -> V -> Bool
 | .non, .non => true | .non, .int _ => true | .int _, .non => true | .non, .bl _ => true | .bl _, .non => true | .non, .str _ => true | .str _, .non => true
 | .int _, .int _ => true | .bl _, .bl _ => true | .str _, .str _ => true | .byt _, .byt _ => true
 | .int _, .str _ => true | .str _, .int _ => true | .bl _, .str _ => true | .str _, .bl _ => true
 | _, _ => false
noncomputable def rEq : R2 := fun x y H Q => scal x y = true /\ Q (.bl (decide (x = y))) H
noncomputable def rNe : R2 := fun x y H Q => scal x y = true /\ Q (.bl (!decide (x = y))) H
theorem zjz {i j : Int} : decide (V.int i = V.int j) = (i == j) := by
 rw [Bool.eq_iff_iff]
 simp
theorem zme {i j : Bool} : decide (V.bl i = V.bl j) = (i == j) := by
 rw [Bool.eq_iff_iff]
 simp
theorem zkm {i j : Str} : decide (V.str i = V.str j) = (i == j) := by
 rw [Bool.eq_iff_iff]
 simp
theorem zkv {i j : Array UInt8} : decide (V.byt i = V.byt j) = (i.toList == j.toList) := by
 rw [Bool.eq_iff_iff]
 cases i
 cases j
 simp
section
variable {X : Cx} {a b c : Expr} {ta tb tc : TE} {pos : Pos}
theorem za2 {pins : List (Addr × Obj)} {σ : St} {H : Hp} {s : Shared} {Q : VK} {k k' : Bool} (I : Inv X pins σ H s) (q : Q (.bl k) H) (e : k = k') : EP X pins σ Q (.bool k') s := by
 subst e
 exact ⟨.bl k, H, I, rfl, q⟩
theorem zcm : OpR X (compareOp .Eq) rEq := by
 intro pins s σ H x y v u Q I rx ry h
 obtain ⟨hs, q⟩ := h
 cases x with
 | non =>
  cases rx
  cases y with
  | non => cases ry; exact PySem.EqNone.eq_none_none (za2 I q (by simp))
  | bl j => cases ry; exact PySem.EqNone.eq_none_bool (za2 I q (by simp))
  | int j => obtain ⟨t', rfl⟩ := ry; exact PySem.EqNone.eq_none_int (za2 I q (by simp))
  | str j => obtain ⟨t', rfl⟩ := ry; exact PySem.EqNone.eq_none_str (za2 I q (by simp))
  | _ => exact absurd (show false = true from hs) Bool.false_ne_true
 | bl i =>
  cases rx
  cases y with
  | non => cases ry; exact PySem.EqNone.eq_bool_none (za2 I q (by simp))
  | bl j => cases ry; exact eq_bool (za2 I q zme)
  | str j => obtain ⟨t', rfl⟩ := ry; exact PySem.EqMixed.eq_bool_str (za2 I q (by simp))
  | _ => exact absurd (show false = true from hs) Bool.false_ne_true
 | int i =>
  obtain ⟨t, rfl⟩ := rx
  cases y with
  | non => cases ry; exact PySem.EqNone.eq_int_none (za2 I q (by simp))
  | int j => obtain ⟨t', rfl⟩ := ry; exact eq_int (za2 I q zjz)
  | str j => obtain ⟨t', rfl⟩ := ry; exact PySem.EqMixed.eq_int_str (za2 I q (by simp))
  | _ => exact absurd (show false = true from hs) Bool.false_ne_true
 | str i =>
  obtain ⟨t, rfl⟩ := rx
  cases y with
  | non => cases ry; exact PySem.EqNone.eq_str_none (za2 I q (by simp))
  | bl j => cases ry; exact PySem.EqMixed.eq_str_bool (za2 I q (by simp))
  | int j => obtain ⟨t', rfl⟩ := ry; exact PySem.EqMixed.eq_str_int (za2 I q (by simp))
  | str j => obtain ⟨t', rfl⟩ := ry; exact eq_str (za2 I q zkm)
  | _ => exact absurd (show false = true from hs) Bool.false_ne_true
 | byt i =>
  obtain ⟨t, rfl⟩ := rx
  cases y with
  | byt j => obtain ⟨t', rfl⟩ := ry; exact PySem.W.eq_bytes (za2 I q zkv)
  | _ => exact absurd (show false = true from hs) Bool.false_ne_true
 | _ => cases y <;> exact absurd (show false = true from hs) Bool.false_ne_true
theorem zos : OpR X (compareOp .NotEq) rNe := by
 intro pins s σ H x y v u Q I rx ry h
 obtain ⟨hs, q⟩ := h
 cases x with
 | non =>
  cases rx
  cases y with
  | non => cases ry; exact PySem.EqNone.ne_none_none (za2 I q (by simp))
  | bl j => cases ry; exact PySem.EqNone.ne_none_bool (za2 I q (by simp))
  | int j => obtain ⟨t', rfl⟩ := ry; exact PySem.EqNone.ne_none_int (za2 I q (by simp))
  | str j => obtain ⟨t', rfl⟩ := ry; exact PySem.EqNone.ne_none_str (za2 I q (by simp))
  | _ => exact absurd (show false = true from hs) Bool.false_ne_true
 | bl i =>
  cases rx
  cases y with
  | non => cases ry; exact PySem.EqNone.ne_bool_none (za2 I q (by simp))
  | bl j => cases ry; exact ne_bool (za2 I q (congrArg not zme))
  | str j => obtain ⟨t', rfl⟩ := ry; exact PySem.EqMixed.ne_bool_str (za2 I q (by simp))
  | _ => exact absurd (show false = true from hs) Bool.false_ne_true
 | int i =>
  obtain ⟨t, rfl⟩ := rx
  cases y with
  | non => cases ry; exact PySem.EqNone.ne_int_none (za2 I q (by simp))
  | int j => obtain ⟨t', rfl⟩ := ry; exact ne_int (za2 I q (congrArg not zjz))
  | str j => obtain ⟨t', rfl⟩ := ry; exact PySem.EqMixed.ne_int_str (za2 I q (by simp))
  | _ => exact absurd (show false = true from hs) Bool.false_ne_true
 | str i =>
  obtain ⟨t, rfl⟩ := rx
  cases y with
  | non => cases ry; exact PySem.EqNone.ne_str_none (za2 I q (by simp))
  | bl j => cases ry; exact PySem.EqMixed.ne_str_bool (za2 I q (by simp))
  | int j => obtain ⟨t', rfl⟩ := ry; exact PySem.EqMixed.ne_str_int (za2 I q (by simp))
  | str j => obtain ⟨t', rfl⟩ := ry; exact ne_str (za2 I q (congrArg not zkm))
  | _ => exact absurd (show false = true from hs) Bool.false_ne_true
 | byt i =>
  obtain ⟨t, rfl⟩ := rx
  cases y with
  | byt j => obtain ⟨t', rfl⟩ := ry; exact PySem.W.ne_bytes (za2 I q (congrArg not zkv))
  | _ => exact absurd (show false = true from hs) Bool.false_ne_true
 | _ => cases y <;> exact absurd (show false = true from hs) Bool.false_ne_true
theorem zps : OpR X (compareOp .LtE) (rI0 fun i j => .bl (decide (i <= j))) := opB0 fun _ _ _ _ _ _ _ q => le_int q
theorem zoz : OpR X (compareOp .Gt) (rI0 fun i j => .bl (decide (j < i))) := opB0 fun _ _ _ _ _ _ _ q => gt_int q
theorem zj8 : OpR X (compareOp .In) (fun x y H Q => ∃ i j, x = .str i /\ y = .str j /\ Q (.bl (!(Builtin.Str.occurrences j i 0 j.length 1).isEmpty)) H) := by
 intro pins s σ H x y v u Q I rx ry h
 obtain ⟨i, j, rfl, rfl, q⟩ := h
 obtain ⟨t, rfl⟩ := rx
 obtain ⟨t', rfl⟩ := ry
 exact in_str (za2 I q rfl)
theorem zbj (b : Expr) {op : CmpOp} (h : op ≠ .In := by decide) (h2 : op ≠ .NotIn := by decide) : behindInMarks op b = false := by
 have e1 : (op == CmpOp.In) = false := by cases op <;> first | rfl | exact absurd rfl h
 have e2 : (op == CmpOp.NotIn) = false := by cases op <;> first | rfl | exact absurd rfl h2
 cases b <;> simp [behindInMarks, e1, e2]
theorem zc5 {op : CmpOp} {r : R2} (ho : OpR X (compareOp op) r) (ha : PE X a ta) (hb : PE X b tb) (hm : behindInMarks op b = false) : PE X (.Compare a [op] [b] pos) (tOp r ta tb) := by
 intro pins s σ H Q I h
 exact wpAny_Compare1 (binT ha hb I h fun v u s2 x y H2 I2 rx ry q => ho pins s2 σ H2 x y v u Q I2 rx ry q) hm
noncomputable def zn2 (t : TE) : TT := fun σ H Q => t σ H fun x H' => ∃ k, x = .bl k /\ Q k H'
theorem za9 {op : CmpOp} {r : R2} (ho : OpR X (compareOp op) r) (ha : PE X a ta) (hb : PE X b tb) (hm : behindInMarks op b = false) : PT X (.Compare a [op] [b] pos) (zn2 (tOp r ta tb)) := by
 intro pins s σ H Q I h
 refine wpAny_isTrue_Compare1 (thn (ha pins s σ H _ I h) fun v s1 ⟨x, H1, I1, r1, q1⟩ => thn (hb pins s1 σ H1 _ I1 q1) fun u s2 ⟨y, H2, I2, r2, q2⟩ =>
  thn (ho pins s2 σ H2 x y v u _ I2 r1 r2 q2) fun c s3 ⟨z, H3, I3, r3, k, e, q3⟩ => ?_) hm
 subst e
 cases r3
 exact wpAny_truthy_bool ⟨H3, I3, q3⟩
theorem zhc : (sizeLine : Nat) < 2 ^ 63 := by rw [sizeLine_eq]; decide
theorem zho {x : V} {us : List Value} (r : Vals [x] us) : ∃ u, us = [u] /\ RelV x u := by
 cases r with
 | cons r1 r2 => cases r2; exact ⟨_, rfl, r1⟩
theorem zhz {x y : V} {us : List Value} (r : Vals [x, y] us) : ∃ u w', us = [u, w'] /\ RelV x u /\ RelV y w' := by
 cases r with
 | cons r1 r2 =>
  cases r2 with
  | cons r3 r4 => cases r4; exact ⟨_, _, rfl, r1, r3⟩
theorem zla : zb2 X (.builtin "abs") (fun xs H Q => ∃ i, xs = [.int i] /\ Q (.int (if i < 0 then -i else i)) H) := by
 intro pins s σ H xs us Q I r h
 obtain ⟨i, rfl, q⟩ := h
 obtain ⟨u, rfl, t, rfl⟩ := zho r
 exact call_abs_int fun u tk => ⟨.int (if i < 0 then -i else i), H, I.tok _, ⟨_, rfl⟩, q⟩
end
end L2
namespace L2
open PySem PySem.Spec PyProof.Rows
structure ObjM (h : Heap) (x dx C : Addr) (mA : Str -> Option Value) : Prop where
 obj : h.get? x = some (PySem.W.instObj C dx)
 ns : h.Ns1 dx mA
 ne : dx ≠ x
theorem zk5 {h : Heap} {dx : Addr} {mA : Str -> Option Value} (n : h.Ns1 dx mA) : ∃ od, h.get? dx = some od /\ ∀ name, PySem.W.lookIn name od = some (mA name) := by
 obtain ⟨o, es, ep, ho, hd, hk, _, hm⟩ := n
 refine ⟨o, ho, fun name => ?_⟩
 have e := hm name
 unfold nsFind findBy at e
 rw [<- Array.find?_toList] at e
 unfold PySem.W.lookIn
 rw [hd]
 dsimp only
 split
 ·rename_i y q
  rw [q] at e
  exact congrArg some e
 ·rename_i q
  rw [q] at e
  have a : es.toList.any (·.refKey) = false := by
   rw [List.any_eq_false]
   intro y hy
   obtain ⟨z, t, hkey⟩ := hk y (Array.mem_toList_iff.mp hy)
   simp [DictEntry.refKey, hkey]
  have a' : ¬ es.toList.any (·.refKey) = true := by rw [a]; exact Bool.false_ne_true
  rw [if_neg a']
  exact congrArg some e
theorem ObjM.look {h : Heap} {x dx C : Addr} {mA : Str -> Option Value} (I : ObjM h x dx C mA) : ∃ od, PySem.W.InstAt h x (PySem.W.instObj C dx) C (some od) /\ ∀ name, PySem.W.lookIn name od = some (mA name) :=
 let ⟨od, ho, hl⟩ := zk5 I.ns
 ⟨od, ⟨I.obj, rfl, rfl, ho⟩, hl⟩
section
variable {prog : Program} {w : World} {A : Around} {E : Value -> Shared -> Prop} {s : Shared} {K : PySem.W.Frag} {x dx C f : Addr} {mA : Str -> Option Value} {name : Str} {v : Value}
theorem zny {expr : Bool} {Q : Value -> Shared -> Prop} (X : K.In s.heap) (I : ObjM s.heap x dx C mA) (hg : PySem.W.plainGet K C name = true) (hh : PySem.W.hasDictIn K C = true)
  (ha : PySem.W.findIn K (.ref C) name = some none) (hv : mA name = some v) (hv' : PySem.W.handedIn v = true) (h : Q v { s with toks := s.toks + 1 }) :
  wpAny (model prog w) A (getAttr (.ref x) name expr) Q E s := by
 obtain ⟨od, J, hl⟩ := I.look
 exact PySem.W.get_value X J (PySem.W.plainGet_of hg).1 (PySem.W.findObj_own hh ha rfl (by rw [hl, hv])) hv' h
theorem zld {pl : Sem Bool} {Q : Value × List Value -> Shared -> Prop} (X : K.In s.heap) (I : ObjM s.heap x dx C mA) (hg : PySem.W.plainGet K C name = true)
  (hf : PySem.W.findIn K (.ref C) name = some (some (.ref f))) (ht : PySem.W.isFn K (.ref f) = true) (hv : mA name = none) (h : Q (.ref f, [.ref x]) s) :
  wpAny (model prog w) A (getMethod (.ref x) name pl) Q E s := by
 obtain ⟨od, J, hl⟩ := I.look
 exact PySem.W.method_fn X J (PySem.W.plainGet_of hg).1 (PySem.W.plainGet_of hg).2 hf (beq_iff_eq.mp ht) (by show (PySem.W.lookIn name od).map (·.isSome) = some false; rw [hl, hv]; rfl) h
theorem zm3 {ns : List Str} {Q : Unit -> Shared -> Prop} (X : K.In s.heap) (I : ObjM s.heap x dx C mA)
  (hs : PySem.W.findIn K (.ref C) "__setattr__" = some (some (.builtin "object.__setattr__"))) (hp : PySem.W.plainOver K C = true) (ht : PySem.W.takerIn K C name = some none) (hh : PySem.W.hasDictIn K C = true)
  (hw : PySem.Within mA ns) (hsz : ns.length <= sizeLine)
  (h : ∀ h', ObjM h' x dx C (fun y => if y = name then some v else mA y) -> Heap.SameBut dx s.heap h' -> Q () { s with heap := h', toks := s.toks + 2 }) :
  wpAny (model prog w) A (setAttr (.ref x) name v) Q E s := by
 obtain ⟨od, J, hl⟩ := I.look
 refine PySem.W.set_plain X J hs (PySem.W.osa_open (s:={ s with toks := s.toks + 1 }) (r:=none) X J hp ht fun b => ?_)
 obtain ⟨cd, hc, hd'⟩ := PySem.W.any_some hh
 have hx : s.heap.get? x = some ⟨.ref C, some dx, .plain, #[]⟩ := I.obj
 refine wpAny_bind (wpAny_pure (wpAny_bind (wpAny_bind (wpAny_loadPart hx (wpAny_bind (PySem.W.Looks.here (s:={ s with toks := s.toks + 1 }) (PySem.W.looks_clsIn X hc) ?_))))))
 rw [hd']
 refine wpAny_pure (a:=some dx) (wpAny_bind (wpAny_pure (wpAny_bind ?_)))
 refine wpAny_nsSet1 (s:={ s with toks := s.toks + 1 }) I.ns fun h' hn2 hs2 => ?_
 obtain ⟨oD, esD, epD, hoD, hdD, hcD⟩ := hn2.count (PySem.Within.cons name v hw)
 refine wpAny_bind (wpAny_lookBehind hoD (by rw [hdD]; exact pastItsLine_dict (Nat.le_trans hcD (by rw [List.length_cons]; omega))) ?_)
 exact wpAny_pure (h _ ⟨(hs2.2 _ (Ne.symm I.ne)).trans I.obj, hn2, I.ne⟩ hs2)
theorem zlw {R : Result -> Shared -> Prop} {vs : List Value} {kw : List (Str × Value)} (X : K.In s.heap) (hm : PySem.W.makesIn K C = true)
  (hi : PySem.W.findIn K (.ref C) "__init__" = some (some (.ref f))) (hf : PySem.W.typeIn K (.ref f) = some (.type "function"))
  (h : codeAny (model prog w) (A.under (.builtin "type.__call__" ⟨.ref C :: vs, kw⟩)) (.call (.ref f) ⟨.ref (s.heap.objs.size + 1) :: vs, kw⟩) (PySem.W.InitBack (s.heap.objs.size + 1) R)
   { s with heap := (s.heap.push PySem.W.emptyDict).push (PySem.W.instObj C s.heap.objs.size) }) :
  codeAny (model prog w) A (.call (.ref C) ⟨vs, kw⟩) R s := by
 obtain ⟨hh, g, d, t, os⟩ := s
 exact PySem.W.make_core (PySem.W.makes_of X hm) (PySem.W.looks_findIn X hi) (fun self => PySem.W.bind_fn X self hf) (.inl rfl) h
end
noncomputable def putF (f : Str) (v : V) : List (Str × V) -> List (Str × V)
 | [] => [(f, v)]
 | (g, x) :: r => if g = f then (g, v) :: r else (g, x) :: putF f v r
theorem zen (f g : Str) (v : V) : ∀ fs : List (Str × V), (putF f v fs).lookup g = if g = f then some v else fs.lookup g
 | [] => by
  show List.lookup g [(f, v)] = _
  by_cases h : g = f
  ·have hb : (g == f) = true := beq_iff_eq.mpr h
   simp only [List.lookup, hb, if_pos h]
  ·have hb : (g == f) = false := beq_eq_false_iff_ne.mpr h
   simp only [List.lookup, hb, if_neg h]
 | (k, x) :: r => by
  have ih := zen f g v r
  rw [show putF f v ((k, x) :: r) = (if k = f then (k, v) :: r else (k, x) :: putF f v r) from rfl]
  by_cases hk : k = f
  ·rw [if_pos hk]
   by_cases h : g = k
   ·have hb : (g == k) = true := beq_iff_eq.mpr h
    simp only [List.lookup, hb, if_pos (h.trans hk)]
   ·have hb : (g == k) = false := beq_eq_false_iff_ne.mpr h
    simp only [List.lookup, hb, if_neg (fun e : g = f => h (e.trans hk.symm))]
  ·rw [if_neg hk]
   by_cases h : g = k
   ·have hb : (g == k) = true := beq_iff_eq.mpr h
    simp only [List.lookup, hb, if_neg (fun e : g = f => hk (h.symm.trans e))]
   ·have hb : (g == k) = false := beq_eq_false_iff_ne.mpr h
    simp only [List.lookup, hb]
    exact ih
theorem zer (f : Str) (v : V) : ∀ fs : List (Str × V), f ∈ (putF f v fs).map (·.1) /\ ∀ g, g ∈ fs.map (·.1) -> g ∈ (putF f v fs).map (·.1)
 | [] => ⟨by simp [putF], fun g h => by simp at h⟩
 | (k, x) :: r => by
  obtain ⟨i1, i2⟩ := zer f v r
  rw [show putF f v ((k, x) :: r) = (if k = f then (k, v) :: r else (k, x) :: putF f v r) from rfl]
  by_cases hk : k = f
  ·rw [if_pos hk]
   subst hk
   exact ⟨by simp, fun g h => by simpa using h⟩
  ·rw [if_neg hk]
   refine ⟨?_, fun g h => ?_⟩
   ·rw [List.map_cons]
    exact List.mem_cons_of_mem _ i1
   ·rw [List.map_cons] at h ⊢
    rcases List.mem_cons.mp h with e | e
    ·exact List.mem_cons.mpr (.inl e)
    ·exact List.mem_cons_of_mem _ (i2 g e)
theorem zeu (f : Str) (v : V) : ∀ fs : List (Str × V), (putF f v fs).length <= fs.length + 1
 | [] => by simp [putF]
 | (k, x) :: r => by
  have ih := zeu f v r
  rw [show putF f v ((k, x) :: r) = (if k = f then (k, v) :: r else (k, x) :: putF f v r) from rfl]
  by_cases hk : k = f
  ·rw [if_pos hk, List.length_cons, List.length_cons]; omega
  ·rw [if_neg hk, List.length_cons, List.length_cons]; omega
theorem RelO.some_of {v : V} {o : Option Value} (r : RelO (some v) o) : ∃ u, o = some u /\ RelV v u := by
 cases o with
 | none => exact (show False from r).elim
 | some u => exact ⟨u, rfl, r⟩
theorem RelO.none_of {o : Option Value} (r : RelO none o) : o = none := by
 cases o with
 | none => rfl
 | some u => exact (show False from r).elim
theorem zjm {v : V} {u : Value} (r : RelV v u) : PySem.W.handedIn u = true := by
 cases v with
 | non => cases (show u = Value.none from r); rfl
 | bl b => cases (show u = Value.bool b from r); rfl
 | int i => obtain ⟨t, e⟩ := (show ∃ t, u = Value.int i t from r); cases e; rfl
 | str x => obtain ⟨t, e⟩ := (show ∃ t, u = Value.str x t from r); cases e; rfl
 | byt b => obtain ⟨t, e⟩ := (show ∃ t, u = Value.bytes b t from r); cases e; rfl
 | flt b => obtain ⟨t, e⟩ := (show ∃ t, u = Value.float b t from r); cases e; rfl
 | ref a => cases (show u = Value.ref a from r); rfl
 | ty n => cases (show u = Value.type n from r); rfl
section
variable {P : Program} {w : World} {H H' : Hp} {h h' : Heap} {a C dx : Addr} {fs fs' : List (Str × V)}
theorem zf5 (hok : HOk P w H h) (e : H a = some (.ins C dx fs)) : ∃ mA, ObjM h a dx C mA /\ (∀ f, RelO (fs.lookup f) (mA f)) /\ PySem.Within mA (fs.map (·.1)) /\ fs.length <= 1000 /\ H dx = some (.own a) := by
 obtain ⟨d, z, ne, ob, mA, n, r, q⟩ := (show zcl P w H h a (.ins C dx fs) from hok a _ e)
 exact ⟨mA, ⟨ob, n, ne⟩, r, q, z, d⟩
end
structure Cls (K : PySem.W.Frag) (C : Addr) : Prop where
 pg : PySem.W.plainGet K C Str.empty = true
 hd : PySem.W.hasDictIn K C = true
 po : PySem.W.plainOver K C = true
 sa : PySem.W.findIn K (.ref C) "__setattr__" = some (some (.builtin "object.__setattr__"))
theorem Cls.get {K : PySem.W.Frag} {C : Addr} (c : Cls K C) (f : Str) : PySem.W.plainGet K C f = true := c.pg
noncomputable def zbw (K : PySem.W.Frag) (C : Addr) (f : Str) : Prop := PySem.W.findIn K (.ref C) f = some none
theorem zbw.taker {K : PySem.W.Frag} {C : Addr} {f : Str} (n : zbw K C f) : PySem.W.takerIn K C f = some none := by
 unfold PySem.W.takerIn
 rw [show PySem.W.findIn K (.ref C) f = some none from n]
 rfl
structure Con (K : PySem.W.Frag) (C : Addr) (f : Str) (v : V) (u : Value) : Prop where
 at_ : PySem.W.findIn K (.ref C) f = some (some u)
 rel : RelV v u
 get : PySem.W.specialIn K u "__get__" = some none
 cp : PySem.W.copiedNames.contains f = false
structure Meth (K : PySem.W.Frag) (C : Addr) (m : Str) (f : Addr) : Prop where
 at_ : PySem.W.findIn K (.ref C) m = some (some (.ref f))
 fn : PySem.W.isFn K (.ref f) = true
 kp : PySem.W.keepIn K (.ref f) = true
section
variable {X : Cx} {pins : List (Addr × Obj)} {σ : St} {H : Hp} {s : Shared} {a C dx : Addr} {fs : List (Str × V)} {f : Str} {v : V} {A : Around} {E : Value -> Shared -> Prop}
theorem zjf {b : Bool} {Q : Value -> Shared -> Prop} (I : Inv X pins σ H s) (e : H a = some (.ins C dx fs)) (c : Cls X.K C) (n : zbw X.K C f) (l : fs.lookup f = some v)
  (h : ∀ u s', Inv X pins σ H s' -> RelV v u -> Q u s') : wpAny (model X.prog X.w) A (getAttr (.ref a) f b) Q E s := by
 obtain ⟨mA, O, r, _, _, _⟩ := zf5 I.hok e
 obtain ⟨u, hu, ru⟩ := RelO.some_of (v:=v) (o:=mA f) (by rw [<- l]; exact r f)
 exact zny I.kIn O (c.get f) c.hd n hu (zjm ru) (h u _ (I.tok _) ru)
theorem zjd {m : Str} {g : Addr} {pl : Sem Bool} {Q : Value × List Value -> Shared -> Prop} (I : Inv X pins σ H s) (e : H a = some (.ins C dx fs)) (c : Cls X.K C) (k : Meth X.K C m g) (l : fs.lookup m = none)
  (h : Q (.ref g, [.ref a]) s) : wpAny (model X.prog X.w) A (getMethod (.ref a) m pl) Q E s := by
 obtain ⟨mA, O, r, _, _, _⟩ := zf5 I.hok e
 have hn : mA m = none := RelO.none_of (by rw [<- l]; exact r m)
 exact zld I.kIn O (c.get m) k.at_ k.fn hn h
theorem zi1 {y : V} {u : Value} {Q : Unit -> Shared -> Prop} (I : Inv X pins σ H s) (e : H a = some (.ins C dx fs)) (c : Cls X.K C) (n : zbw X.K C f) (hl : fs.length < 1000) (ry : RelV y u)
  (h : ∀ s', Inv X pins σ (upd H a (.ins C dx (putF f y fs))) s' -> Q () s') : wpAny (model X.prog X.w) A (setAttr (.ref a) f u) Q E s := by
 obtain ⟨mA, O, r, wi, _, ho⟩ := zf5 I.hok e
 have hz : (fs.map (·.1)).length <= sizeLine := by rw [List.length_map, sizeLine_eq]; omega
 refine zm3 I.kIn O c.sa c.po n.taker c.hd wi hz fun h' O' sb => h _ ?_
 have hd : ∃ o, h'.get? dx = some o := let ⟨o, _, _, e', _⟩ := O'.ns; ⟨o, e'⟩
 refine I.write (x:=a) (e:=dx) (by rw [e]; exact True.intro) (.inr ho) (fun b q hb z => (sb.2 b hb).trans z) hd ?_
 refine ⟨by rw [zam O.ne]; exact ho, ?_, O.ne, O'.obj, _, O'.ns, fun g => ?_, fun g hg => ?_⟩
 ·have := zeu f y fs; omega
 ·show RelO ((putF f y fs).lookup g) (if g = f then some u else mA g)
  rw [zen]
  by_cases q : g = f
  ·rw [if_pos q, if_pos q]; exact ry
  ·rw [if_neg q, if_neg q]; exact r g
 ·by_cases q : g = f
  ·rw [q]; exact (zer f y fs).1
  ·refine (zer f y fs).2 g (wi g fun z => hg ?_)
   show (if g = f then some u else mA g) = none
   rw [if_neg q]; exact z
theorem Inv.made (I : Inv X pins σ H s) : Inv X pins σ (upd (upd H s.heap.objs.size (.own (s.heap.objs.size + 1))) (s.heap.objs.size + 1) (.ins C s.heap.objs.size []))
  { s with heap := (s.heap.push PySem.W.emptyDict).push (PySem.W.instObj C s.heap.objs.size) } := by
 have e1 : (s.heap.push PySem.W.emptyDict).get? s.heap.objs.size = some PySem.W.emptyDict := Heap.get?_push_size s.heap rfl
 have e2 : ((s.heap.push PySem.W.emptyDict).push (PySem.W.instObj C s.heap.objs.size)).get? (s.heap.objs.size + 1) = some (PySem.W.instObj C s.heap.objs.size) := by
  have := Heap.get?_push_size (s.heap.push PySem.W.emptyDict) (o:=PySem.W.instObj C s.heap.objs.size) rfl
  rwa [Heap.size_push] at this
 have e3 : (s.heap.push PySem.W.emptyDict).Ns s.heap.objs.size (fun _ => none) := ⟨PySem.W.emptyDict, #[], _, e1, rfl, (fun e he => absurd he (by simp)), fun _ => rfl⟩
 have I1 := I.laid (a:=s.heap.objs.size) (o:=.own (s.heap.objs.size + 1)) (h':=s.heap.push PySem.W.emptyDict) (t':=s.toks) (fun b u q => Heap.get?_push_of_some _ q) (Nat.le_refl _) ⟨_, e1⟩
 refine I1.laid (a:=s.heap.objs.size + 1) (o:=.ins C s.heap.objs.size []) (t':=s.toks) (fun b u q => Heap.get?_push_of_some _ q) (Nat.le_of_eq (Heap.size_push _ _)) ?_
 have ne : s.heap.objs.size ≠ s.heap.objs.size + 1 := Nat.ne_of_lt (Nat.lt_succ_self _)
 refine ⟨by rw [zam ne, zal], Nat.zero_le _, ne, e2, fun _ => none, (Heap.Ns1.of_empty e3).at fun o q => Heap.get?_push_of_some _ q, fun _ => True.intro, fun y hy => absurd rfl hy⟩
theorem znk {prog : Program} {w : World} {env : Env} {e : Expr} {f : Str} {pos : Pos} {s : Shared} {Q : Value -> Shared -> Prop} (hb : attributeBase e f env (eval e env) = eval e env)
  (h : wpAny (model prog w) A (eval e env) (fun o s₁ => wpAny (model prog w) A (getAttr o f true) Q E s₁) E s) : wpAny (model prog w) A (eval (.Attribute e f pos) env) Q E s :=
 Attribute_any_ h (by rw [arm_eval_Attribute, hb])
end
noncomputable def tFld (K : PySem.W.Frag) (ta : TE) (f : Str) : TE := fun σ H Q => ta σ H fun x H1 => ∃ a C dx fs v, x = .ref a /\ H1 a = some (.ins C dx fs) /\ Cls K C /\ zbw K C f /\ fs.lookup f = some v /\ Q v H1
noncomputable def sFld (K : PySem.W.Frag) (ta tv : TE) (f : Str) : TS := fun D σ H => tv σ H fun y H1 => ta σ H1 fun x H2 => ∃ a C dx fs, x = .ref a /\ H2 a = some (.ins C dx fs) /\ Cls K C /\ zbw K C f /\ fs.length < 1000 /\
 D.nx σ (upd H2 a (.ins C dx (putF f y fs)))
section
variable {X : Cx} {o e value : Expr} {f : Str} {pos pos' tpos : Pos} {ta tv : TE}
theorem ze0 (he : PE X e ta) (hb : attributeBase e f X.env (eval e X.env) = eval e X.env) : PE X (.Attribute e f pos) (tFld X.K ta f) := by
 intro pins s σ H Q I h
 refine znk hb (thn (he pins s σ H _ I h) fun u s1 hz9 => ?_)
 obtain ⟨x, H1, I1, rx, a, C, dx, fs, v, ex, ea, c, n, l, q⟩ := hz9
 subst ex
 obtain rfl : u = Value.ref a := rx
 exact zjf I1 ea c n l fun u' s2 I2 ru => ⟨v, H1, I2, ru, q⟩
theorem zc0 (ha : PE X o ta) (hv : PE X value tv) (hs : swapsWith value (some (.Attribute o f pos')) pos.line X.env = pure false) : PS X (.Assign [.Attribute o f pos'] value pos) (sFld X.K ta tv f) := by
 intro pins s σ H D I h
 refine plainObj_wpAny_Assign_Attribute (thn (hv pins s σ H _ I h) fun u s1 ⟨y, H1, I1, ry, q⟩ => thn (ha pins s1 σ H1 _ I1 q) fun ov s2 hz9 => ?_) hs
 obtain ⟨x, H2, I2, rx, a, C, dx, fs, ex, ea, c, n, l, q2⟩ := hz9
 subst ex
 obtain rfl : ov = Value.ref a := rx
 exact zi1 I2 ea c n l ry fun s3 I3 => ⟨σ, _, I3, q2⟩
end
section
variable {X : Cx} {pins : List (Addr × Obj)} {σ : St} {H : Hp} {s : Shared} {A : Around} {E : Value -> Shared -> Prop} {Q : Value -> Shared -> Prop} {c : Value} {b : Bool}
inductive TyOf (K : PySem.W.Frag) (H : Hp) : V -> Value -> Prop where
 | non : TyOf K H .non (.type "NoneType")
 | bl (x : Bool) : TyOf K H (.bl x) (.type "bool")
 | int (i : Int) : TyOf K H (.int i) (.type "int")
 | str (x : Str) : TyOf K H (.str x) (.type "str")
 | flt (x : UInt64) : TyOf K H (.flt x) (.type "float")
 | lst {a : Addr} {xs : List V} (e : H a = some (.lst xs)) : TyOf K H (.ref a) (.type "list")
 | frz {a : Addr} {o : Obj} {xs : List V} (e : H a = some (.frz o (.lst xs))) : TyOf K H (.ref a) (.type "list")
 | tup {a : Addr} {xs : List V} (e : H a = some (.tup xs)) : TyOf K H (.ref a) (.type "tuple")
 | dK {a : Addr} {kvs : List (Key × V)} (e : H a = some (.dK kvs)) : TyOf K H (.ref a) (.type "dict")
 | dT {a : Addr} {kvs : List (List Key × V)} (e : H a = some (.dT kvs)) : TyOf K H (.ref a) (.type "dict")
 | ins {a C dx : Addr} {fs : List (Str × V)} (e : H a = some (.ins C dx fs)) (cl : Cls K C) (ha : PySem.W.findIn K (.ref C) "__class__" = some (some (.builtin "object.__class__")))
   (hn : PySem.W.specialIn K (.builtin "object.__class__") "__get__" = some (some (.builtin "getset_descriptor.__get__"))) (htk : PySem.W.takesIn K (.builtin "object.__class__") = some true)
   (hm : PySem.W.mroIn K C (.type "object") = some true) : TyOf K H (.ref a) (.ref C)
theorem zjn {x : V} {u t : Value} (I : Inv X pins σ H s) (rx : RelV x u) (ty : TyOf X.K H x t) (e : PySem.W.kitOne X.K t c = some b) (h : ∀ tk, Q (.bool b) { s with toks := tk }) :
  wpAny (model X.prog X.w) A (call (.builtin "isinstance") [u, c]) Q E s := by
 cases ty with
 | non => cases (show u = Value.none from rx); exact PySem.W.kia_one PySem.W.kitx_none I.kIn True.intro e (fun z => nomatch z) h
 | bl y => cases (show u = Value.bool y from rx); exact PySem.W.kia_one PySem.W.kitx_bool I.kIn True.intro e (fun z => nomatch z) h
 | int i => obtain ⟨t, q⟩ := (show ∃ t, u = Value.int i t from rx); cases q; exact PySem.W.kia_one PySem.W.kitx_int I.kIn True.intro e (fun z => nomatch z) h
 | str y => obtain ⟨t, q⟩ := (show ∃ t, u = Value.str y t from rx); cases q; exact PySem.W.kia_one PySem.W.kitx_str I.kIn True.intro e (fun z => nomatch z) h
 | flt y => obtain ⟨t, q⟩ := (show ∃ t, u = Value.float y t from rx); cases q; exact PySem.W.kia_one PySem.W.kitx_float I.kIn True.intro e (fun z => nomatch z) h
 | @lst a xs ea =>
  cases (show u = Value.ref a from rx)
  obtain ⟨_, _, n, _, h1⟩ := (show zcl X.prog X.w H s.heap a (.lst xs) from I.hok a _ ea)
  exact PySem.W.kia_one PySem.W.kitx_list I.kIn ⟨_, h1, rfl⟩ e (fun z => nomatch z) h
 | @frz a ob xs ea =>
  cases (show u = Value.ref a from rx)
  obtain ⟨_, _, _, n, _, h1⟩ := (show zcl X.prog X.w H s.heap a (.frz ob (.lst xs)) from I.hok a _ ea)
  exact PySem.W.kia_one PySem.W.kitx_list I.kIn ⟨_, h1, rfl⟩ e (fun z => nomatch z) h
 | @tup a xs ea =>
  cases (show u = Value.ref a from rx)
  obtain ⟨_, _, _, p⟩ := (show zcl X.prog X.w H s.heap a (.tup xs) from I.hok a _ ea)
  obtain ⟨o, h1, h2, _⟩ := p
  exact PySem.W.kia_one PySem.W.kitx_tuple I.kIn ⟨o, h1, h2⟩ e (fun z => nomatch z) h
 | @dK a kvs ea =>
  cases (show u = Value.ref a from rx)
  obtain ⟨_, _, vs, _, p⟩ := (show zcl X.prog X.w H s.heap a (.dK kvs) from I.hok a _ ea)
  obtain ⟨o, es, ep, h1, h2, _⟩ := p
  exact PySem.W.kia_one PySem.W.kitx_dict I.kIn ⟨o, h1, h2.1⟩ e (fun z => nomatch z) h
 | @dT a kvs ea =>
  cases (show u = Value.ref a from rx)
  obtain ⟨_, _, xs, _, o, es, ep, h1, h2, _⟩ := (show zcl X.prog X.w H s.heap a (.dT kvs) from I.hok a _ ea)
  exact PySem.W.kia_one PySem.W.kitx_dict I.kIn ⟨o, h1, h2.1⟩ e (fun z => nomatch z) h
 | @ins a C dx fs ea cl ha hn htk hm =>
  cases (show u = Value.ref a from rx)
  obtain ⟨mA, O, _⟩ := zf5 I.hok ea
  obtain ⟨od, J, _⟩ := O.look
  exact PySem.W.kia_one (PySem.W.kitx_own (cl.get _) cl.hd ha hn htk hm) I.kIn J e (fun z => nomatch z) h
end
end L2
namespace L2
open PySem PySem.Spec PyProof.Rows
structure Room (k : Nat) (A : Around) : Prop where
 hd : A.handled = none
 dp : A.depth + 3 * k + 5 < recursionLimit
 un : A.units + 16 * k + 200 < cLine
 gd : A.guards = some []
theorem Room.mono {j k : Nat} {A : Around} (r : Room k A) (h : j <= k) : Room j A := ⟨r.hd, by have := r.dp; omega, by have := r.un; omega, r.gd⟩
theorem Room.deeper {k : Nat} {A : Around} (r : Room (k + 1) A) (env : Env) : Room k (A.deeper env) :=
 ⟨r.hd, by have := r.dp; show A.depth + 1 + 3 * k + 5 < _; omega, by have := r.un; show A.units + 3 + 16 * k + 200 < _; omega, r.gd⟩
theorem zjg {A : Around} {C : Addr} {us : List Value} {kw : List (Str × Value)} : (A.under (.builtin "type.__call__" ⟨.ref C :: us, kw⟩)).depth = A.depth + 1 := by
 first | rfl | simp [Around.under, Code.weight, Code.isCreation, Code.isGuard, Code.isCaller, Code.frames, Code.isFrame, guardIds]
theorem zi4 {A : Around} {C : Addr} {us : List Value} {kw : List (Str × Value)} : (A.under (.builtin "type.__call__" ⟨.ref C :: us, kw⟩)).units = A.units + 1 := by
 first | rfl | simp [Around.under, Code.cUnits, Code.frames, Code.isFrame]
theorem Room.make {k : Nat} {A : Around} (r : Room (k + 1) A) (C : Addr) (us : List Value) (kw : List (Str × Value)) : Room k (A.under (.builtin "type.__call__" ⟨.ref C :: us, kw⟩)) :=
 ⟨r.hd, by have := r.dp; rw [zjg]; omega, by have := r.un; rw [zi4]; omega, r.gd⟩
theorem Room.depth {k : Nat} {A : Around} (r : Room k A) : A.depth < recursionLimit := by have := r.dp; omega
theorem Room.units {k : Nat} {A : Around} (r : Room k A) : A.units + 64 < cLine := by have := r.un; omega
noncomputable def tNil : TA := fun _ H Q => Q [] H
noncomputable def zbn (ta : TE) (tr : TA) : TA := fun σ H Q => ta σ H fun x H1 => tr σ H1 fun xs H2 => Q (x :: xs) H2
section
variable {X : Cx} {e : Expr} {es : List Expr} {te : TE} {t : TA} {pos : Pos}
theorem zaf : PA X [] tNil := fun _ _ _ _ H Q I h => Calls.spliced_nil ⟨[], H, I, .nil, h⟩
theorem zaa (ha : PE X e te) (hr : PA X es t) (hs : starEach (e :: es) X.env = (false, eval e X.env) :: starEach es X.env := by rfl) : PA X (e :: es) (zbn te t) := by
 intro pos pins s σ H Q I h
 rw [hs]
 show wpAny _ _ (spliced ((false, eval e X.env) :: backTo pos (starEach es X.env))) _ _ s
 refine Calls.spliced_cons (thn (ha pins s σ H _ I h) fun u s1 hz9 => ?_)
 obtain ⟨x, H1, I1, r1, q1⟩ := hz9
 refine thn (hr pos pins s1 σ H1 _ I1 q1) fun us s2 hz9 => ?_
 obtain ⟨xs, H2, I2, r2, q2⟩ := hz9
 exact ⟨x :: xs, H2, I2, .cons r1 r2, q2⟩
noncomputable def tTup (t : TA) : TE := fun σ H Q => t σ H fun xs H1 => xs.length <= sizeLine /\ ∀ p, H1 p = none -> Q (.ref p) (upd H1 p (.tup xs))
noncomputable def tLst (t : TA) : TE := fun σ H Q => t σ H fun xs H1 => xs.length <= sizeLine /\ ∀ p, H1 p = none -> Q (.ref p) (upd H1 p (.lst xs))
theorem zj7 {x1} (h : PA X es t) : PE X (.Tuple es x1 pos) (tTup t) := by
 intro pins s σ H Q I hq
 refine wpAny_Tuple_spliced (thn (h pos pins s σ H _ I hq) fun us s1 ⟨xs, H1, I1, r, z, q⟩ => ⟨by rw [<- r.length]; exact z, ?_⟩)
 have hf : H1 s1.heap.objs.size = none := I1.hok.fresh (Nat.le_refl _)
 refine ⟨.ref s1.heap.objs.size, upd H1 s1.heap.objs.size (.tup xs), I1.laid (t':=s1.toks) (fun b u e => Heap.get?_push_of_some _ e) (Nat.le_refl _) ?_, rfl, q _ hf⟩
 exact ⟨z, us, r, ⟨_, Heap.get?_push_size _ rfl, rfl, _, rfl⟩⟩
theorem zcp (h : PA X es t) : PE X (.List es pos) (tLst t) := by
 intro pins s σ H Q I hq
 refine wpAny_List_spliced (thn (h pos pins s σ H _ I hq) fun us s1 ⟨xs, H1, I1, r, z, q⟩ => ⟨by rw [<- r.length]; exact z, ?_⟩)
 have hf : H1 s1.heap.objs.size = none := I1.hok.fresh (Nat.le_refl _)
 refine ⟨.ref s1.heap.objs.size, upd H1 s1.heap.objs.size (.lst xs), I1.laid (t':=s1.toks) (fun b u e => Heap.get?_push_of_some _ e) (Nat.le_refl _) ?_, rfl, q _ hf⟩
 exact ⟨z, us, 0, r, Heap.get?_push_size _ rfl⟩
end
noncomputable abbrev Sp := List V -> Hp -> VK -> XK -> Prop
noncomputable abbrev CXT := List Env -> Hp -> Shared -> XK -> Value -> Shared -> Prop
structure Env0 (P : Program) (w : World) (K : PySem.W.Frag) (mg : Str -> Option Value) (base : Heap) (A : Around) (outer : List Env) (s : Shared) (H : Hp) : Prop where
 frames : A.frames = some outer
 mod : Mod K mg base
 bs : ∀ b o, base.get? b = some o -> s.heap.get? b = some o /\ H b = none
 bsz : base.objs.size <= s.heap.objs.size
 funs : s.heap.FunFrames base outer
 frf : ∀ b ∈ frs outer, H b = none
 hok : HOk P w H s.heap
 bare : AllBare s.gens
noncomputable def CE (outer : List Env) (P : Program) (w : World) (H : Hp) (s : Shared) (Q : VK) (u : Value) (s' : Shared) : Prop :=
 ∃ v H', s'.os = s.os /\ AllBare s'.gens /\ Un (frs outer) [] H H' s.heap s'.heap /\ HOk P w H' s'.heap /\ RelV v u /\ Q v H'
noncomputable def CR (CX : CXT) (outer : List Env) (P : Program) (w : World) (H : Hp) (s : Shared) (Q : VK) (E : XK) (r : Result) (s' : Shared) : Prop :=
 match r with
 | .ok (.ret u) => CE outer P w H s Q u s'
 | .ok _ => False
 | .error e => CX outer H s E e s'
structure FnOk (P : Program) (w : World) (K : PySem.W.Frag) (mg : Str -> Option Value) (base : Heap) (CX : CXT) (k : Nat) (f : Addr) (fd : FuncData) (ps : List Str) (sp : Sp) : Prop where
 len : ∀ vs H Q E, sp vs H Q E -> vs.length = ps.length
 run : ∀ (A : Around) (outer : List Env) (s : Shared) (H : Hp) (args : Args) (us : List Value) (vs : List V) (Q : VK) (E : XK), Room k A -> Env0 P w K mg base A outer s H -> BindsTo s fd args (ps.zip us) -> Vals vs us -> sp vs H Q E ->
  codeAny (model P w) A (.call (.ref f) args) (CR CX outer P w H s Q E) s
theorem FnOk.mono {P : Program} {w : World} {K : PySem.W.Frag} {mg : Str -> Option Value} {base : Heap} {CX : CXT} {j k : Nat} {f : Addr} {fd : FuncData} {ps : List Str} {sp : Sp} (F : FnOk P w K mg base CX j f fd ps sp) (h : j <= k) :
  FnOk P w K mg base CX k f fd ps sp := ⟨F.len, fun A outer s H args us vs Q E hr => F.run A outer s H args us vs Q E (hr.mono h)⟩
theorem Env0.make {P : Program} {w : World} {K : PySem.W.Frag} {mg : Str -> Option Value} {base : Heap} {A : Around} {outer : List Env} {s : Shared} {H : Hp} (e : Env0 P w K mg base A outer s H) (C : Addr) (us : List Value) (kw : List (Str × Value)) :
  Env0 P w K mg base (A.under (.builtin "type.__call__" ⟨.ref C :: us, kw⟩)) outer s H := ⟨by first | exact e.frames | (simpa [Around.under, Code.envs, Code.isFrame, pushEnvs] using e.frames), e.mod, e.bs, e.bsz, e.funs, e.frf, e.hok, e.bare⟩
section
variable {X : Cx} {pins : List (Addr × Obj)} {σ : St} {H : Hp} {s s' : Shared}
theorem Inv.env0 (I : Inv X pins σ H s) : Env0 X.prog X.w X.K X.mg X.base X.A X.stack s H :=
 ⟨I.ok.frames, I.ok.mod, I.bs, Nat.le_trans I.ok.bsz I.sz, I.stack, I.stkFree, I.hok, I.bare⟩
theorem Inv.after {Q : VK} {u : Value} (I : Inv X pins σ H s) (h : CE X.stack X.prog X.w H s Q u s') : EP X pins σ Q u s' := by
 obtain ⟨v, H', os, bare, un, hok, r, q⟩ := h
 obtain ⟨hh, g, d, t, os'⟩ := s'
 obtain rfl : os' = s.os := os
 exact ⟨v, H', I.call (h':=hh) (g':=g) (d':=d) (t':=t) (ch:=[]) un hok bare (fun b z => absurd z (by simp)), r, q⟩
end
noncomputable def zia (sp : Sp) (dvs : List V) (E : XK) (t : TA) : TE := fun σ H Q => t σ H fun vs H1 => sp (vs ++ dvs) H1 Q E
noncomputable def zn7 (C : Addr) (sp : Sp) (dvs : List V) (E : XK) (t : TA) : TE := fun σ H Q => t σ H fun vs H1 => ∀ x dx, H1 x = none -> H1 dx = none -> dx ≠ x ->
 sp (.ref x :: (vs ++ dvs)) (upd (upd H1 dx (.own x)) x (.ins C dx [])) (fun v H2 => v = .non /\ Q (.ref x) H2) E
noncomputable def zbp (K : PySem.W.Frag) (fd : FuncData) (ps : List Str) (ds : List Value) : Prop :=
 ∀ (s : Shared) (us : List Value), K.In s.heap -> (us ++ ds).length = ps.length -> BindsTo s fd ⟨us, []⟩ (ps.zip (us ++ ds))
theorem zbp.all {K : PySem.W.Frag} {fd : FuncData} {ps : List Str} (h : ∀ us : List Value, us.length = ps.length -> bindArgs fd ⟨us, []⟩ = pure (ps.zip us)) : zbp K fd ps [] := fun s us _ hl => by
 rw [List.append_nil] at hl ⊢
 exact .of_eq (h us hl)
noncomputable def zey (CX : CXT) (X : Cx) (E : XK) : Prop := ∀ (pins : List (Addr × Obj)) (σ : St) (H : Hp) (s : Shared) (e : Value) (s' : Shared), Inv X pins σ H s -> CX X.stack H s E e s' -> X.xe e s'
section
variable {X : Cx} {CX : CXT} {k : Nat} {f C : Addr} {fd : FuncData} {ps : List Str} {sp : Sp} {dvs : List V} {ds : List Value} {E : XK} {x m : Str} {p pos apos : Pos} {e o : Expr} {es : List Expr} {ta : TE} {t : TA}
theorem zk4 {pins : List (Addr × Obj)} {σ : St} {H : Hp} {s : Shared} {Q : VK} {us : List Value} {vs : List V} (F : FnOk X.prog X.w X.K X.mg X.base CX k f fd ps sp) (hr : Room k X.A) (hb : zbp X.K fd ps ds) (hd : Vals dvs ds) (hx : zey CX X E)
  (I : Inv X pins σ H s) (r : Vals vs us) (h : sp (vs ++ dvs) H Q E) : wpAny (model X.prog X.w) X.A (call (.ref f) us) (EP X pins σ Q) X.xe s := by
 have r2 : Vals (vs ++ dvs) (us ++ ds) := r.append hd
 have hl : (us ++ ds).length = ps.length := by rw [<- r2.length]; exact F.len _ _ _ _ h
 refine wpAny_call (codeAny_mono (F.run X.A X.stack s H ⟨us, []⟩ (us ++ ds) (vs ++ dvs) Q E hr I.env0 (hb s us I.kIn hl) r2 h) fun r s' hq => ?_)
 cases r with
 | error e => exact hx pins σ H s e s' I hq
 | ok fl =>
  cases fl with
  | ret u => exact I.after hq
  | next => exact False.elim hq
  | brk => exact False.elim hq
  | cont => exact False.elim hq
theorem zbr (F : FnOk X.prog X.w X.K X.mg X.base CX k f fd ps sp) (hr : Room k X.A) (hg : Gl X x) (hm : X.mg x = some (.ref f)) (hk : PySem.W.keepIn X.K (.ref f) = true) (hb : zbp X.K fd ps ds) (hd : Vals dvs ds) (hx : zey CX X E)
  (ha : PA X (e :: es) t) (hdb : (x == ("__debug__" : Str)) = false := by decide) (he : starEach (e :: es) X.env = (false, eval e X.env) :: starEach es X.env := by rfl) (hpl : (backTo pos (starEach es X.env)).any (·.1) = false := by rfl) :
  PE X (.Call (.Name x p) (e :: es) [] pos) (zia sp dvs E t) := by
 intro pins s σ H Q I h
 refine wpAny_Call_Name_kw (zhv I hg hm ?_ hdb)
 refine PySem.W.callWith_K (h₀:=X.base) I.ok.mod.kin hk (thn (ha pos pins s σ H _ I h) fun us s1 ⟨vs, H1, I1, r, q⟩ => ⟨I1.kIn, ?_⟩) he hpl
 exact zk4 F hr hb hd hx I1 r q
structure Mk (K : PySem.W.Frag) (C f : Addr) : Prop where
 makes : PySem.W.makesIn K C = true
 init : PySem.W.findIn K (.ref C) "__init__" = some (some (.ref f))
 fn : PySem.W.isFn K (.ref f) = true
 kp : PySem.W.keepIn K (.ref C) = true
theorem zlt {pins : List (Addr × Obj)} {σ : St} {H : Hp} {s : Shared} {Q : VK} {us : List Value} {vs : List V} (M : Mk X.K C f) (F : FnOk X.prog X.w X.K X.mg X.base CX k f fd ps sp) (hr : Room (k + 1) X.A) (hb : zbp X.K fd ps ds) (hd : Vals dvs ds)
  (hx : zey CX X E) (I : Inv X pins σ H s) (r : Vals vs us)
  (h : ∀ x dx, H x = none -> H dx = none -> dx ≠ x -> sp (.ref x :: (vs ++ dvs)) (upd (upd H dx (.own x)) x (.ins C dx [])) (fun v H2 => v = .non /\ Q (.ref x) H2) E) :
  wpAny (model X.prog X.w) X.A (call (.ref C) us) (EP X pins σ Q) X.xe s := by
 have hq := h (s.heap.objs.size + 1) s.heap.objs.size (I.hok.fresh (Nat.le_succ _)) (I.hok.fresh (Nat.le_refl _)) (Nat.ne_of_lt (Nat.lt_succ_self _))
 have I2 := Inv.made (C:=C) I
 have r2 : Vals (V.ref (s.heap.objs.size + 1) :: (vs ++ dvs)) (Value.ref (s.heap.objs.size + 1) :: (us ++ ds)) := .cons rfl (r.append hd)
 have hl : (Value.ref (s.heap.objs.size + 1) :: us ++ ds).length = ps.length := by
  have e := r2.length
  rw [F.len _ _ _ _ hq] at e
  exact e.symm
 refine wpAny_call (zlw (f:=f) I.kIn M.makes M.init (beq_iff_eq.mp M.fn) (codeAny_mono (F.run _ X.stack _ _ ⟨Value.ref (s.heap.objs.size + 1) :: us, []⟩ (Value.ref (s.heap.objs.size + 1) :: (us ++ ds)) _ _ E (hr.make C us [])
  (I2.env0.make C us []) (hb _ (Value.ref (s.heap.objs.size + 1) :: us) I2.kIn hl) r2 hq) fun r s' hq' => ?_))
 cases r with
 | error e => exact hx pins σ _ _ e s' I2 hq'
 | ok fl =>
  cases fl with
  | ret u =>
   obtain ⟨v, H', I3, rv, ev, q3⟩ := I2.after hq'
   subst ev
   exact ⟨rv, ⟨V.ref (s.heap.objs.size + 1), H', I3, rfl, q3⟩⟩
  | next => exact False.elim hq'
  | brk => exact False.elim hq'
  | cont => exact False.elim hq'
theorem zep (M : Mk X.K C f) (F : FnOk X.prog X.w X.K X.mg X.base CX k f fd ps sp) (hr : Room (k + 1) X.A) (hg : Gl X x) (hm : X.mg x = some (.ref C)) (hb : zbp X.K fd ps ds) (hd : Vals dvs ds) (hx : zey CX X E)
  (ha : PA X (e :: es) t) (hdb : (x == ("__debug__" : Str)) = false := by decide) (he : starEach (e :: es) X.env = (false, eval e X.env) :: starEach es X.env := by rfl) (hpl : (backTo pos (starEach es X.env)).any (·.1) = false := by rfl) :
  PE X (.Call (.Name x p) (e :: es) [] pos) (zn7 C sp dvs E t) := by
 intro pins s σ H Q I h
 refine wpAny_Call_Name_kw (zhv I hg hm ?_ hdb)
 refine PySem.W.callWith_K (h₀:=X.base) I.ok.mod.kin M.kp (thn (ha pos pins s σ H _ I h) fun us s1 ⟨vs, H1, I1, r, q⟩ => ⟨I1.kIn, ?_⟩) he hpl
 exact zlt M F hr hb hd hx I1 r q
end
noncomputable def PK (X : Cx) (kws : List Keyword) (t : TA) : Prop :=
 ∀ (pos : Pos) (pins : List (Addr × Obj)) (s : Shared) (σ : St) (H : Hp) (Q : List V -> Hp -> Prop), Inv X pins σ H s -> t σ H Q -> wpAny (model X.prog X.w) X.A (evalAll ((backToKw pos (keywordEach kws X.env)).map (·.2))) (AP X pins σ Q) X.xe s
section
variable {X : Cx} {CX : CXT} {k : Nat} {f C : Addr} {fd : FuncData} {ps ks : List Str} {sp : Sp} {E : XK} {x m : Str} {p pos apos kpos : Pos} {e o : Expr} {es : List Expr} {kws : List Keyword} {te ta : TE} {t tk : TA} {nm : Option Str}
theorem zo7 : PK X [] tNil := fun _ _ _ _ H Q I h => wpAny_evalAll_nil ⟨[], H, I, .nil, h⟩
theorem znj (ha : PE X e te) (hr : PK X kws t) : PK X (⟨nm, e, kpos⟩ :: kws) (zbn te t) := by
 intro pos pins s σ H Q I h
 show wpAny _ _ (evalAll ((do let v <- eval e X.env; standAt pos; pure v) :: (backToKw pos (keywordEach kws X.env)).map (·.2))) _ _ s
 refine wpAny_evalAll_cons (wpAny_bind (thn (ha pins s σ H _ I h) fun u s1 ⟨x, H1, I1, r1, q1⟩ => wpAny_bind (wpAny_standAt (wpAny_pure ?_))))
 refine thn (hr pos pins s1 σ H1 _ I1 q1) fun us s2 hz9 => ?_
 obtain ⟨xs, H2, I2, r2, q2⟩ := hz9
 exact ⟨x :: xs, H2, I2, .cons r1 r2, q2⟩
structure KBinds (K : PySem.W.Frag) (fd : FuncData) (ps ks : List Str) (g : List Value -> List Value -> List Value) (gV : List V -> List V -> List V) : Prop where
 to : ∀ (s : Shared) (us ws : List Value), K.In s.heap -> (g us ws).length = ps.length -> BindsTo s fd ⟨us, ks.zip ws⟩ (ps.zip (g us ws))
 rel : ∀ {vs : List V} {us : List Value} {zs : List V} {ws : List Value}, Vals vs us -> Vals zs ws -> Vals (gV vs zs) (g us ws)
variable {g : List Value -> List Value -> List Value} {gV : List V -> List V -> List V}
end
structure FnScope (N P : List Str) (sc : Scope) : Prop where
 kind : sc.kind = .function
 co : sc.isCoroutine = false
 gen : sc.isGenerator = false
 nd : N.Nodup
 pre : N.take P.length = P
 par : ∀ x ∈ P, sc.names.lookup x = some .local \/ sc.names.lookup x = some .cell
 nofree : ∀ y ∈ sc.names, y.2 ≠ .free
theorem zgf {kindOf : Str -> Option NameKind} {x : Str} : ∀ {binds : List (Str × Value)} {m : Str -> Option Value}, (∀ v, (x, v) ∉ binds) -> bindL kindOf binds m x = m x
 | [], _, _ => rfl
 | (n, v) :: r, m, h => by
  unfold bindL
  rw [zgf fun w hw => h w (List.mem_cons_of_mem _ hw)]
  split
  ·have : x ≠ n := by rintro rfl; exact h v List.mem_cons_self
   simp [this]
  ·rfl
theorem zf7 {kindOf : Str -> Option NameKind} {x : Str} : ∀ {binds : List (Str × Value)} {m : Str -> Option Value}, (∀ v, (x, v) ∉ binds) -> bindC kindOf binds m x = m x
 | [], _, _ => rfl
 | (n, v) :: r, m, h => by
  unfold bindC
  rw [zf7 fun w hw => h w (List.mem_cons_of_mem _ hw)]
  split
  ·rfl
  ·have : x ≠ n := by rintro rfl; exact h v List.mem_cons_self
   simp [this]
theorem zgz {kindOf : Str -> Option NameKind} {x : Str} {v : Value} : ∀ {P : List Str} {vs : List Value} {i : Nat} {m : Str -> Option Value}, P.Nodup -> P[i]? = some x -> vs[i]? = some v -> kindOf x = some .local ->
  bindL kindOf (P.zip vs) m x = some v
 | [], _, _, _, _, h, _, _ => by simp at h
 | _ :: _, [], _, _, _, _, h, _ => by simp at h
 | p :: P, w :: vs, 0, m, nd, h1, h2, hk => by
  simp at h1 h2; subst h1; subst h2
  show bindL kindOf ((p, w) :: P.zip vs) m p = _
  unfold bindL
  rw [zgf fun v hv => (List.nodup_cons.mp nd).1 (List.of_mem_zip hv).1, if_pos hk]
  simp
 | p :: P, w :: vs, i + 1, m, nd, h1, h2, hk => by
  show bindL kindOf ((p, w) :: P.zip vs) m x = _
  unfold bindL
  exact zgz (i:=i) (List.nodup_cons.mp nd).2 (by simpa using h1) (by simpa using h2) hk
theorem zgq {kindOf : Str -> Option NameKind} {x : Str} {v : Value} : ∀ {P : List Str} {vs : List Value} {i : Nat} {m : Str -> Option Value}, P.Nodup -> P[i]? = some x -> vs[i]? = some v -> kindOf x ≠ some .local ->
  bindC kindOf (P.zip vs) m x = some v
 | [], _, _, _, _, h, _, _ => by simp at h
 | _ :: _, [], _, _, _, _, h, _ => by simp at h
 | p :: P, w :: vs, 0, m, nd, h1, h2, hk => by
  simp at h1 h2; subst h1; subst h2
  show bindC kindOf ((p, w) :: P.zip vs) m p = _
  unfold bindC
  rw [zf7 fun v hv => (List.nodup_cons.mp nd).1 (List.of_mem_zip hv).1, if_neg hk]
  simp
 | p :: P, w :: vs, i + 1, m, nd, h1, h2, hk => by
  show bindC kindOf ((p, w) :: P.zip vs) m x = _
  unfold bindC
  exact zgq (i:=i) (List.nodup_cons.mp nd).2 (by simpa using h1) (by simpa using h2) hk
noncomputable def start (N : List Str) (vs : List V) : St := vs.map some ++ List.replicate (N.length - vs.length) none
noncomputable def cxOf (CX : CXT) (P : Program) (w : World) (K : PySem.W.Frag) (mg : Str -> Option Value) (base : Heap) (N : List Str) (qual : Str) (scope : Scope) (f : Addr) (cd : Value) (A : Around) (outer : List Env) (s : Shared) (H : Hp) (E : XK) : Cx where
 prog := P
 w := w
 K := K
 mg := mg
 base := base
 A := A.deeper (envOfC qual scope s.heap.objs.size f cd)
 N := N
 s₀ := s
 H₀ := H
 env := envOfC qual scope s.heap.objs.size f cd
 outer := outer
 stack := envOfC qual scope s.heap.objs.size f cd :: outer
 ex := []
 calm := true
 fn := fun _ => true
 pn := []
 xe := fun e s' => wpAny (model P w) (A.deeper (envOfC qual scope s.heap.objs.size f cd)) (leaving (envOfC qual scope s.heap.objs.size f cd) e) (fun _ s'' => CX outer H s E e s'') (fun e' s'' => CX outer H s E e' s'') s'
theorem ziw {sc : Scope} {n : Nat} {x : Str} (h : sc.names.lookup x = some .cell) : ∃ c, (cellsFrom n sc.names []).lookup x = some c := by
 have q := PySem.W.cellsFrom_some sc.names n [] (.inl h)
 exact Option.isSome_iff_exists.mp q
theorem zjl {CX : CXT} {P : Program} {w : World} {K : PySem.W.Frag} {mg : Str -> Option Value} {base : Heap} {N ps : List Str} {qual : Str} {scope : Scope} {f : Addr} {cd : Value} {A : Around} {outer : List Env} {s s1 : Shared} {H : Hp} {E : XK} {us : List Value} {vs : List V}
  (S : FnScope N ps scope) (hd : A.handled = none) (e0 : Env0 P w K mg base A outer s H) (hl : vs.length = ps.length) (r : Vals vs us)
  (x : InCallC s s.heap.objs.size (bindL (envOfC qual scope s.heap.objs.size f cd).kindOf (ps.zip us) fun _ => none) (cellsFrom (s.heap.objs.size + 1) scope.names []) (bindC (envOfC qual scope s.heap.objs.size f cd).kindOf (ps.zip us) fun _ => none) s1) :
  Inv (cxOf CX P w K mg base N qual scope f cd A outer s H E) [] (start N vs) H s1 := by
 have hpl : ps.length <= N.length := by have := congrArg List.length S.pre; rw [List.length_take] at this; omega
 obtain ⟨h1, tk, rfl, hk⟩ := x.done
 have noA : ∀ b : Addr, b ∉ (cxOf CX P w K mg base N qual scope f cd A outer s H E).ex := fun b z => absurd (show b ∈ ([] : List Addr) from z) (by simp)
 refine ⟨⟨e0.mod, S.kind, rfl, rfl, Nat.le_refl _, fun y z c h1 h2 => ?_, fun y hy => ?_, fun y c _ h => ?_, fun _ => hd, Around.frames_deeper e0.frames, .inr ⟨rfl, rfl⟩, fun b z => absurd z (noA b), e0.bs, e0.bsz, fun b _ _ => noA b, fun b z => absurd z (noA b), e0.funs, e0.frf⟩,
  rfl, e0.bare, Un.kept hk, ⟨_, x.toInCall.ns, fun i y v h1 h2 h3 => ?_⟩, fun y c h => ⟨_, x.cell y c h⟩, e0.hok.fresh (Nat.le_refl _), fun y c h => ?_, fun p hp => absurd (show p ∈ ([] : List (Addr × Obj)) from hp) (by simp), e0.hok.kept hk, ?_⟩
 ·exact name_of_addr x.apart (PySem.mem_of_lookup h1) (PySem.mem_of_lookup h2)
 ·have hy : scope.names.lookup y = some .cell \/ scope.names.lookup y = some .free := hy
  rcases hy with hy | hy
  ·exact ziw hy
  ·exact absurd rfl (S.nofree _ (PySem.mem_of_lookup hy))
 ·exact Nat.le_of_lt (x.above y c (PySem.mem_of_lookup h))
 ·have hi : i < vs.length := by
   unfold start at h2
   by_cases hi : i < vs.length
   ·exact hi
   ·rw [List.getElem?_append_right (by simpa using hi)] at h2
    rw [List.getElem?_replicate] at h2
    split at h2 <;> cases h2
  have ha : vs[i]? = some v := by
   unfold start at h2
   rw [List.getElem?_append_left (by simpa using hi), List.getElem?_map] at h2
   cases e : vs[i]? with
   | none => rw [e] at h2; cases h2
   | some a => rw [e] at h2; cases h2; rfl
  obtain ⟨u, hu, rv⟩ := r.get ha
  have hp : ps[i]? = some y := by
   rw [<- S.pre, List.getElem?_take_of_lt (by omega)]; exact h1
  have ndP : ps.Nodup := by rw [<- S.pre]; exact S.nd.sublist (List.take_sublist _ _)
  refine ⟨u, rv, ?_⟩
  rcases S.par y (List.mem_of_getElem? hp) with k | k
  ·exact .inl ⟨k, zgz ndP hp hu k⟩
  ·obtain ⟨c, e⟩ := ziw (n:=s.heap.objs.size + 1) k
   refine .inr ⟨.inl k, c, e, ?_⟩
   have q := x.cell y c e
   rw [zgq ndP hp hu (by show scope.names.lookup y ≠ _; rw [k]; decide)] at q
   exact q
 ·exact e0.hok.fresh (Nat.le_of_lt (x.above y c (PySem.mem_of_lookup h)))
 ·unfold start
  show _ = N.length
  rw [List.length_append, List.length_map, List.length_replicate]
  omega
theorem zpw {CX : CXT} {P : Program} {w : World} {K : PySem.W.Frag} {mg : Str -> Option Value} {base : Heap} {k : Nat} {f : Addr} {name qual : Str} {params : Arguments} {body : List Stmt} {scope : Scope} {dV kV doc pm cdv ct oc : Value} {an od : Option Addr}
  {osl : Array (Option Value)} {N ps : List Str} {sp : Sp} (lk : K.lookup f = some ⟨oc, od, .func (PySem.W.fnOf name qual params body scope dV kV doc pm an cdv ct), osl⟩) (hcd : PySem.W.codeIn K cdv qual = true) (S : FnScope N ps scope)
  (len : ∀ vs H Q E, sp vs H Q E -> vs.length = ps.length)
  (hbody : ∀ (A : Around) (outer : List Env) (s : Shared) (H : Hp) (vs : List V) (Q : VK) (E : XK), Room k (A.deeper (envOfC qual scope s.heap.objs.size f cdv)) -> sp vs H Q E ->
   ∃ t, PSs (cxOf CX P w K mg base N qual scope f cdv A outer s H E) body t /\ t { nx := fun _ H' => Q .non H', rt := Q } (start N vs) H) :
  FnOk P w K mg base CX (k + 1) f (PySem.W.fnOf name qual params body scope dV kV doc pm an cdv ct) ps sp := by
 refine ⟨len, fun A outer s H args us vs Q E hr e0 hb r hsp => ?_⟩
 have hl := len _ _ _ _ hsp
 have KX : K.In s.heap := e0.mod.kin.keeps fun b o e => (e0.bs b o e).1
 have lim : s.heap.NoLimit := e0.mod.nolimit.keeps fun b o e => (e0.bs b o e).1
 have hkind : ∀ y ∈ ps.zip us, scope.names.lookup y.1 = some .local \/ (scope.names.lookup y.1 = some .cell /\ ((cellsFrom (s.heap.objs.size + 1) scope.names []).lookup y.1).isSome = true) := fun ⟨n, v⟩ hy => by
  rcases S.par n (List.of_mem_zip hy).1 with q | q
  ·exact .inl q
  ·exact .inr ⟨q, PySem.W.cellsFrom_some _ _ _ (.inl q)⟩
 refine codeAny_call_function hr.depth (KX _ _ lk) rfl S.co S.gen rfl (PySem.W.codeRec_of KX hcd) (hb _ _ _ _ ?_)
 refine wpAny_newFunctionEnv_cells S.kind hkind fun env he s1 x => ?_
 subst he
 refine ⟨lim.keeps x.toInCall.keep, codeAny_func ?_⟩
 obtain ⟨t, ht, hq⟩ := hbody A outer s H vs Q E (hr.deeper _) hsp
 have I : Inv (cxOf CX P w K mg base N qual scope f cdv A outer s H E) [] (start N vs) H s1 := zjl S hr.hd e0 hl r x
 refine wpAny_mono (ht [] s1 (start N vs) H _ I hq) (fun fl s' hs => ?_) fun e s' hs => hs
 have fin : ∀ {σ' : St} {H' : Hp} {v : V} {u : Value}, Inv (cxOf CX P w K mg base N qual scope f cdv A outer s H E) [] σ' H' s' -> RelV v u -> Q v H' -> CE outer P w H s Q u s' :=
  fun {σ' H' v u} J rv q => ⟨v, H', J.os, J.bare, J.base, J.hok, rv, q⟩
 cases fl with
 | ret u =>
  obtain ⟨v, σ', H', J, rv, q⟩ := hs
  exact fin J rv q
 | next =>
  obtain ⟨σ', H', J, q⟩ := hs
  exact fin (v:=V.non) (u:=Value.none) J rfl q
 | brk =>
  obtain ⟨_, _, _, q⟩ := hs
  exact False.elim q
 | cont =>
  obtain ⟨_, _, _, q⟩ := hs
  exact False.elim q
end L2
namespace L2
open PySem PySem.Spec PyProof.Rows
section
variable {X : Cx} {x : Str} {p pos : Pos} {e : Expr} {es : List Expr} {t : TA} {id T : String} {r : List V -> Hp -> VK -> Prop}
noncomputable def tCB (r : List V -> Hp -> VK -> Prop) (t : TA) : TE := fun σ H Q => t σ H fun vs H1 => r vs H1 Q
theorem za3 (hc : zb2 X (.builtin id) r) (hg : Gl X x) (hm : X.mg x = none) (hv : bootBuiltins x = some (.builtin id)) (ha : PA X (e :: es) t) (hn : x ≠ "__name__" := by decide) (hdb : (x == ("__debug__" : Str)) = false := by decide)
  (he : starEach (e :: es) X.env = (false, eval e X.env) :: starEach es X.env := by rfl) (hpl : (backTo pos (starEach es X.env)).any (·.1) = false := by rfl) : PE X (.Call (.Name x p) (e :: es) [] pos) (tCB r t) := by
 intro pins s σ H Q I h
 refine wpAny_Call_Name_kw (zfk I hg hm hv ?_ hn hdb)
 exact PyProof.Rows.callWith_builtin1 (thn (ha pos pins s σ H _ I h) fun us s1 ⟨vs, H1, I1, r1, q1⟩ => hc pins s1 σ H1 vs us Q I1 r1 q1) he hpl
theorem zcq (hc : zb2 X (.type T) r) (hg : Gl X x) (hm : X.mg x = none) (hv : bootBuiltins x = some (.type T)) (ha : PA X (e :: es) t) (hn : x ≠ "__name__" := by decide) (hdb : (x == ("__debug__" : Str)) = false := by decide)
  (he : starEach (e :: es) X.env = (false, eval e X.env) :: starEach es X.env := by rfl) (hpl : (backTo pos (starEach es X.env)).any (·.1) = false := by rfl) : PE X (.Call (.Name x p) (e :: es) [] pos) (tCB r t) := by
 intro pins s σ H Q I h
 refine wpAny_Call_Name_kw (zfk I hg hm hv ?_ hn hdb)
 exact PyProof.Rows.callWith_type1 (thn (ha pos pins s σ H _ I h) fun us s1 ⟨vs, H1, I1, r1, q1⟩ => hc pins s1 σ H1 vs us Q I1 r1 q1) he hpl
end
end L2
namespace HT
open PySem PyProof.Rows
section
open PySem.SeqAt
open PySem.AutoSeq1 (wpAny_loadPart')
open PySem.MeetsSeq PySem.MeetsSeq2 PySem.MeetsSeq3
end
section
variable {prog : Program} {w : World} {A : Around} {E : Value -> Shared -> Prop} {s : Shared}
noncomputable def sIx (n d : Nat) : Option Int -> Nat
 | none => d
 | some v => if v < 0 then (v + (n : Int)).toNat else min v.toNat n
end
end HT
namespace L2
open PySem PySem.Spec PyProof.Rows
noncomputable abbrev TO := St -> Hp -> (Option Int -> Hp -> Prop) -> Prop
noncomputable def PO (X : Cx) (e : Option Expr) (t : TO) : Prop :=
 ∀ (pins : List (Addr × Obj)) (s : Shared) (σ : St) (H : Hp) (Q : Option Int -> Hp -> Prop), Inv X pins σ H s -> t σ H Q ->
  wpAny (model X.prog X.w) X.A (evalPart e X.env) (fun u s' => ∃ o H', Inv X pins σ H' s' /\ IsPart u o /\ Q o H') X.xe s
noncomputable def zk2 : TO := fun _ H Q => Q none H
noncomputable def zpa (t : TE) : TO := fun σ H Q => t σ H fun x H1 => ∃ i, x = .int i /\ Q (some i) H1
section
variable {X : Cx} {e : Expr} {te : TE} {lo hi : Option Expr} {tl th : TO} {pos p2 : Pos}
theorem zn4 : PO X none zk2 := by
 intro pins s σ H Q I h
 rw [evalPart_none]
 exact wpAny_pure ⟨none, H, I, .none, h⟩
theorem zna (h : PE X e te) : PO X (some e) (zpa te) := by
 intro pins s σ H Q I hw
 rw [evalPart_some]
 refine thn (h pins s σ H _ I hw) fun u s1 hz9 => ?_
 obtain ⟨x, H1, I1, r1, q1⟩ := hz9
 obtain ⟨i, rfl, q⟩ := q1
 obtain ⟨t, rfl⟩ := r1
 exact ⟨some i, H1, I1, .int i t, q⟩
noncomputable def SlR (X : Cx) (r : V -> Option Int -> Option Int -> Hp -> VK -> Prop) : Prop :=
 ∀ (pins : List (Addr × Obj)) (s : Shared) (σ : St) (H : Hp) (x : V) (v vl vu : Value) (lo hi : Option Int) (sl : Addr) (Q : VK), Inv X pins σ H s -> RelV x v -> s.heap.IsSliceOf sl vl vu .none -> IsPart vl lo -> IsPart vu hi -> r x lo hi H Q ->
  ∃ T id, typeLookup (.type T) "__getitem__" = pure (some (.builtin id)) /\ s.TypeIs v T /\ wpAny (model X.prog X.w) X.A (getItem v (.ref sl)) (EP X pins σ Q) X.xe s
noncomputable def tSl (r : V -> Option Int -> Option Int -> Hp -> VK -> Prop) (te : TE) (tl th : TO) : TE := fun σ H Q => te σ H fun x H1 => tl σ H1 fun l H2 => th σ H2 fun u H3 => r x l u H3 Q
theorem zmb {r : V -> Option Int -> Option Int -> Hp -> VK -> Prop} (hr : SlR X r) (he : PE X e te) (hl : PO X lo tl) (hu : PO X hi th) : PE X (.Subscript e (.Slice lo hi none p2) pos) (tSl r te tl th) := by
 intro pins s σ H Q I h
 refine Subscript_ (thn (he pins s σ H _ I h) fun v s1 hz9 => ?_)
 obtain ⟨x, H1, I1, r1, q1⟩ := hz9
 refine wpAny_Slice (thn (hl pins s1 σ H1 _ I1 q1) fun vl s2 ⟨l, H2, I2, pl, q2⟩ => thn (hu pins s2 σ H2 _ I2 q2) fun vu s3 hz9 => ?_)
 obtain ⟨u, H3, I3, pu, q3⟩ := hz9
 rw [evalPart_none]
 refine wpAny_pure ?_
 have I4 : Inv X pins σ H3 { s3 with heap := s3.heap.push { cls := .type "slice", data := .fields #[vl, vu, .none] } } := I3.kept (t':=s3.toks) fun b ob q => Heap.get?_push_of_some _ q
 obtain ⟨T, id, hT, ht, hg⟩ := hr pins { s3 with heap := s3.heap.push { cls := .type "slice", data := .fields #[vl, vu, .none] } } σ H3 x v vl vu l u s3.heap.objs.size Q I4 r1 (Heap.IsSliceOf.new ..) pl pu q3
 show wpAny (model X.prog X.w) X.A (subscriptTail e (.Slice lo hi none p2) v (.ref s3.heap.objs.size)) (EP X pins σ Q) X.xe { s3 with heap := s3.heap.push { cls := .type "slice", data := .fields #[vl, vu, .none] } }
 exact tail_any (ops:=[.ref s3.heap.objs.size, v]) ht hT hg (by with_unfolding_all rfl)
noncomputable def cutV (xs : List V) (lo hi : Option Int) : List V := (xs.drop (HT.sIx xs.length 0 lo)).take (HT.sIx xs.length xs.length hi - HT.sIx xs.length 0 lo)
theorem zic (xs : List V) (lo hi : Option Int) : (cutV xs lo hi).length <= xs.length := by
 unfold cutV
 rw [List.length_take, List.length_drop]
 omega
end
end L2
namespace L2
open PySem PySem.Spec PyProof.Rows
noncomputable def ixN (n : Nat) (i : Int) : Option Nat := if 0 <= i then (if i < n then some i.toNat else none) else if -(n : Int) <= i then some (i + n).toNat else none
noncomputable def atI {α : Type} (xs : List α) (i : Int) : Option α := (ixN xs.length i).bind fun j => xs[j]?
theorem zm0 {n : Nat} {i : Int} {j : Nat} (h : ixN n i = some j) : seqIndex? i n = some j /\ j < n /\ -(n : Int) <= i /\ i < n := by
 unfold ixN at h
 by_cases h0 : 0 <= i
 ·rw [if_pos h0] at h
  by_cases h1 : i < n
  ·rw [if_pos h1] at h
   have e : i.toNat = j := Option.some.inj h
   exact ⟨by rw [seqIndex_of h0 h1, e], by omega, by omega, h1⟩
  ·rw [if_neg h1] at h; cases h
 ·rw [if_neg h0] at h
  by_cases h1 : -(n : Int) <= i
  ·rw [if_pos h1] at h
   have e : (i + n).toNat = j := Option.some.inj h
   exact ⟨by rw [seqIndex_neg (by omega) h1, e], by omega, h1, by omega⟩
  ·rw [if_neg h1] at h; cases h
theorem zh3 {α : Type} {xs : List α} {i : Int} {v : α} (h : atI xs i = some v) : ∃ j, seqIndex? i xs.length = some j /\ xs[j]? = some v /\ j < xs.length /\ -(xs.length : Int) <= i /\ i < xs.length := by
 unfold atI at h
 cases e : ixN xs.length i with
 | none => rw [e] at h; cases h
 | some j =>
  rw [e] at h
  obtain ⟨h1, h2, h3, h4⟩ := zm0 e
  exact ⟨j, h1, h, h2, h3, h4⟩
theorem zj6 {α : Type} {xs : List α} {j : Nat} {v : α} (h : xs[j]? = some v) : atI xs (j : Int) = some v := by
 have hj : j < xs.length := (List.getElem?_eq_some_iff.mp h).1
 have e : ixN xs.length (j : Int) = some j := by
  unfold ixN
  rw [if_pos (by omega), if_pos (by omega)]; simp
 unfold atI; rw [e]; exact h
noncomputable def znq (b : Expr) : Prop := ∀ o i, subscripted b false o i = operate [o, i] (getItem o i)
noncomputable def IxR (X : Cx) (r : R2) : Prop :=
 ∀ (value slice : Expr) (pins : List (Addr × Obj)) (s : Shared) (σ : St) (H : Hp) (x y : V) (v u : Value) (Q : VK), Inv X pins σ H s -> RelV x v -> RelV y u -> r x y H Q ->
  subscripted slice false v u = operate [v, u] (getItem v u) -> wpAny (model X.prog X.w) X.A (subscriptTail value slice v u) (EP X pins σ Q) X.xe s
noncomputable def MtR (X : Cx) (id : String) (r : V -> List V -> Hp -> VK -> Prop) : Prop :=
 ∀ (pins : List (Addr × Obj)) (s : Shared) (σ : St) (H : Hp) (x : V) (xs : List V) (v : Value) (us : List Value) (Q : VK), Inv X pins σ H s -> RelV x v -> Vals xs us -> r x xs H Q ->
  wpAny (model X.prog X.w) X.A (call (.builtin id) (v :: us)) (EP X pins σ Q) X.xe s
section
variable {X : Cx} {a b : Expr} {ta tb : TE} {pos : Pos}
theorem zc7 {r : R2} (hr : IxR X r) (ha : PE X a ta) (hb : PE X b tb) (hs : znq b) : PE X (.Subscript a b pos) (tOp r ta tb) := by
 intro pins s σ H Q I h
 exact Subscript_ (binT ha hb I h fun v u s2 x y H2 I2 rx ry q => hr a b pins s2 σ H2 x y v u Q I2 rx ry q (hs _ _))
noncomputable def rIxL (K : PySem.W.Frag) : R2 := fun x y H Q => ∃ p xs i v, x = .ref p /\ y = .int i /\ SqL K H p xs /\ atI xs i = some v /\ Q v H
noncomputable def rIxT (K : PySem.W.Frag) : R2 := fun x y H Q => ∃ p xs i v, x = .ref p /\ y = .int i /\ SqT K H p xs /\ atI xs i = some v /\ Q v H
noncomputable def rIxS : R2 := fun x y H Q => ∃ z i c, x = .str z /\ y = .int i /\ z.length <= sizeLine /\ atI z.cps.toList i = some c /\ Q (.str ⟨#[c]⟩) H
theorem zb5 : IxR X (rIxL X.K) := by
 intro value slice pins s σ H x y v u Q I rx ry h hs
 obtain ⟨p, xs, i, z, rfl, rfl, hq, he, q⟩ := h
 cases rx
 obtain ⟨t, rfl⟩ := ry
 obtain ⟨its, r, pl, hz⟩ := I.list hq
 obtain ⟨j, h1, h2, h3, h4, h5⟩ := zh3 he
 obtain ⟨w, ew, rw'⟩ := r.get h2
 have hl := r.length
 have hn := zhc
 have fin : EP X pins σ Q w s := ⟨z, H, I, rw', q⟩
 by_cases h0 : 0 <= i
 ·have hj : i.toNat = j := by
   rw [seqIndex_of h0 h5] at h1
   exact Option.some.inj h1
  exact item_listR pl.isList h0 (by omega) (by rw [hj]; simpa using ew) fin hs
 ·have hj : (i + (its.toArray.size : Int)).toNat = j := by
   rw [seqIndex_neg (by omega) h4] at h1
   rw [List.size_toArray, <- hl]
   exact Option.some.inj h1
  exact subscriptTail_builtinR (x:=w) pl.isList.typeIs slot_list_getitem.lookup
   (wpAny_getItem_list_neg (Q:=fun r s' => r = w /\ EP X pins σ Q r s') pl.isList (by omega) (by rw [List.size_toArray] <;> omega) (by omega) (by rw [hj]; simpa using ew) ⟨rfl, fin⟩) hs
theorem zmn : IxR X (rIxT X.K) := by
 intro value slice pins s σ H x y v u Q I rx ry h hs
 obtain ⟨p, xs, i, z, rfl, rfl, hq, he, q⟩ := h
 cases rx
 obtain ⟨t, rfl⟩ := ry
 obtain ⟨its, r, pl, hz⟩ := I.tuple hq
 obtain ⟨j, h1, h2, h3, h4, h5⟩ := zh3 he
 obtain ⟨w, ew, rw'⟩ := r.get h2
 have hl := r.length
 have hn := zhc
 have fin : EP X pins σ Q w s := ⟨z, H, I, rw', q⟩
 exact subscriptTail_builtinR (x:=w) pl.typeIs slot_tuple_getitem.lookup
  (getItem_tuple (j:=j) (Q:=fun r s' => r = w /\ EP X pins σ Q r s') pl (by omega) (by omega) (by rw [List.size_toArray, <- hl]; exact h1) (by simpa using ew) ⟨rfl, fin⟩) hs
theorem zo5 : IxR X rIxS := by
 intro value slice pins s σ H x y v u Q I rx ry h hs
 obtain ⟨z, i, c, rfl, rfl, hz, he, q⟩ := h
 obtain ⟨t, rfl⟩ := rx
 obtain ⟨t', rfl⟩ := ry
 obtain ⟨j, h1, h2, h3, h4, h5⟩ := zh3 he
 have hl : z.cps.toList.length = z.length := by simp [Str.length]
 rw [hl] at h1 h4 h5
 have hn := zhc
 exact tail_any (typeIs_str s z t) slot_str_getitem.lookup (getItem_str (c:=c) (by
  have e1 : decide (i < -(2 ^ 63 : Int)) = false := decide_eq_false (by omega)
  have e2 : decide (i ≥ 2 ^ 63) = false := decide_eq_false (by omega)
  rw [e1, e2, Bool.or_false]) (by rw [h1]; simpa using h2) ⟨.str ⟨#[c]⟩, H, I.tok _, ⟨_, rfl⟩, q⟩) hs
theorem zf9 (lo hi : Option Int) (n : Nat) : (sliceBounds lo hi none n).1 = ((HT.sIx n 0 lo : Nat) : Int) /\ (sliceBounds lo hi none n).2.1 = ((HT.sIx n n hi : Nat) : Int) /\ (sliceBounds lo hi none n).2.2 = 1 := by
 refine ⟨?_, ?_, rfl⟩
 ·cases lo with
  | none => simp [sliceBounds, HT.sIx]
  | some i =>
   simp only [sliceBounds, HT.sIx, Option.getD_none, show (1 : Int) > 0 by decide, if_true]
   by_cases h : i < 0
   ·simp only [h, if_true] <;> omega
   ·simp only [h, if_false] <;> omega
 ·cases hi with
  | none => simp [sliceBounds, HT.sIx]
  | some i =>
   simp only [sliceBounds, HT.sIx, Option.getD_none, show (1 : Int) > 0 by decide, if_true]
   by_cases h : i < 0
   ·simp only [h, if_true] <;> omega
   ·simp only [h, if_false] <;> omega
theorem zfm (its : List Value) (lo hi : Option Int) : slicePick its.toArray lo hi none = ((its.drop (HT.sIx its.length 0 lo)).take (HT.sIx its.length its.length hi - HT.sIx its.length 0 lo)).toArray := by
 obtain ⟨h1, h2, h3⟩ := zf9 lo hi its.toArray.size
 unfold slicePick
 rw [h1, h2, h3]
 simp only [sliceRange_one, pick_run, List.size_toArray] <;> rfl
noncomputable def rSlL (K : PySem.W.Frag) : V -> Option Int -> Option Int -> Hp -> VK -> Prop := fun x lo hi H Q => ∃ a xs, x = .ref a /\ SqL K H a xs /\ ∀ p, H p = none -> Q (.ref p) (upd H p (.lst (cutV xs lo hi)))
theorem zmu : SlR X (rSlL X.K) := by
 intro pins s σ H x v vl vu lo hi sl Q I rx hs pl pu h
 obtain ⟨a, xs, rfl, hx, q⟩ := h
 cases rx
 obtain ⟨its, r, ht, hz⟩ := I.list hx
 have hlen := r.length
 refine ⟨"list", _, slot_list_getitem.lookup, ht.isList.typeIs, ?_⟩
 refine wpAny_getItem_list_slice ht.isList hs pl pu .none (by simp) ?_ (by rw [List.size_toArray] <;> omega)
 rw [zfm, <- hlen]
 refine ⟨.ref s.heap.objs.size, _, I.laid (t':=s.toks) (o:=.lst (cutV xs lo hi)) (fun b ob q => Heap.get?_push_of_some _ q) (Nat.le_refl _) ?_, rfl, q _ (I.hok.fresh (Nat.le_refl _))⟩
 exact ⟨Nat.le_trans (zic xs lo hi) hz, _, 0, (r.drop (HT.sIx xs.length 0 lo)).take (HT.sIx xs.length xs.length hi - HT.sIx xs.length 0 lo), Heap.get?_push_size _ rfl⟩
theorem zcv : zb2 X (.builtin "len") (fun xs H Q => ∃ p ys, xs = [.ref p] /\ (SqL X.K H p ys \/ SqT X.K H p ys) /\ Q (.int ys.length) H) := by
 intro pins s σ H xs us Q I r h
 obtain ⟨p, ys, rfl, hq, q⟩ := h
 obtain ⟨u, rfl, rx⟩ := zho r
 cases rx
 have hn := zhc
 rcases hq with hq | hq
 ·obtain ⟨its, r', pl, hz⟩ := I.list hq
  have hlen := r'.length
  exact Calls.call_len_list pl.isList (by simp only [List.size_toArray] <;> omega) ⟨.int ys.length, H, I.tok _, ⟨s.toks + 1, by rw [List.size_toArray, hlen]⟩, q⟩
 ·obtain ⟨its, r', pl, hz⟩ := I.tuple hq
  have hlen := r'.length
  exact len_tuple pl (by simp only [List.size_toArray] <;> omega) ⟨.int ys.length, H, I.tok _, ⟨s.toks + 1, by rw [List.size_toArray, hlen]⟩, q⟩
theorem zdz : zb2 X (.builtin "len") (fun xs H Q => ∃ z, xs = [.str z] /\ z.length <= sizeLine /\ Q (.int z.length) H) := by
 intro pins s σ H xs us Q I r h
 obtain ⟨z, rfl, hz, q⟩ := h
 obtain ⟨u, rfl, t, rfl⟩ := zho r
 have hn := zhc
 exact len_str (by omega) ⟨.int z.length, H, I.tok _, ⟨_, rfl⟩, q⟩
noncomputable def tyV (K : PySem.W.Frag) (T : String) (x : V) (H : Hp) : Prop := match x with
 | .str _ => T = "str"
 | .int _ => T = "int"
 | .ref p => (T = "list" /\ ∃ xs, SqL K H p xs) \/ (T = "tuple" /\ ∃ o, K.lookup p = some o /\ o.cls = .type "tuple" /\ o.dict = none) \/
   (T = "dict" /\ ((∃ kvs, H p = some (.dK kvs)) \/ ∃ kvs, H p = some (.dT kvs))) \/ (T = "set" /\ ∃ S n, H p = some (.set S n))
 | _ => False
theorem zml {pins : List (Addr × Obj)} {σ : St} {H : Hp} {s : Shared} {T : String} {x : V} {v : Value} (I : Inv X pins σ H s) (r : RelV x v) (ty : tyV X.K T x H) :
  s.TypeIs v T /\ ∀ a, v = .ref a -> ∃ ob, s.heap.get? a = some ob /\ ob.dict = none := by
 cases x with
 | str z =>
  obtain ⟨t, rfl⟩ := r
  cases (show T = "str" from ty)
  exact ⟨typeIs_str s z t, fun _ e => nomatch e⟩
 | int i =>
  obtain ⟨t, rfl⟩ := r
  cases (show T = "int" from ty)
  exact ⟨typeIs_int s i t, fun _ e => nomatch e⟩
 | ref p =>
  cases r
  rcases ty with ⟨rfl, xs, hq⟩ | ⟨rfl, o, hk, hc, hd⟩ | ⟨rfl, hk⟩ | ⟨rfl, S, n, hk⟩
  ·obtain ⟨its, _, pl, _⟩ := I.list hq
   refine ⟨pl.isList.typeIs, fun a e => ?_⟩
   cases e
   obtain ⟨o, n, e, c, hd, _⟩ := pl
   exact ⟨o, e, hd⟩
  ·refine ⟨⟨o, I.kIn p o hk, hc⟩, fun a e => ?_⟩
   cases e
   exact ⟨o, I.kIn _ o hk, hd⟩
  ·have z : ∃ o, s.heap.get? p = some o /\ o.ExactDict := by
    rcases hk with ⟨kvs, hk⟩ | ⟨kvs, hk⟩
    ·obtain ⟨_, _, _, _, o, _, _, e, ex, _⟩ := I.hok p _ hk
     exact ⟨o, e, ex⟩
    ·obtain ⟨_, _, _, _, o, _, _, e, ex, _⟩ := I.hok p _ hk
     exact ⟨o, e, ex⟩
   obtain ⟨o, e, ex⟩ := z
   refine ⟨⟨o, e, ex.1⟩, fun a e2 => ?_⟩
   cases e2
   exact ⟨o, e, ex.2.1⟩
  ·obtain ⟨o, _, _, _, e, ex, _⟩ := I.hok p _ hk
   refine ⟨⟨o, e, ex.1⟩, fun a e2 => ?_⟩
   cases e2
   exact ⟨o, e, ex.2.1⟩
 | _ => exact False.elim ty
noncomputable def tBM0 (K : PySem.W.Frag) (T : String) (r : V -> List V -> Hp -> VK -> Prop) (to : TE) : TE := fun σ H Q => to σ H fun x H1 => tyV K T x H1 /\ r x [] H1 Q
noncomputable def tBM (K : PySem.W.Frag) (T : String) (r : V -> List V -> Hp -> VK -> Prop) (to : TE) (t : TA) : TE := fun σ H Q => to σ H fun x H1 => tyV K T x H1 /\ t σ H1 fun xs H2 => r x xs H2 Q
variable {o e : Expr} {es : List Expr} {to : TE} {t : TA} {name : Str} {apos cpos : Pos} {T id : String} {r : V -> List V -> Hp -> VK -> Prop}
theorem zof (pa : PlainAttrs T) (slot : Slot T name id) (hty : typeOf (.builtin id) = pure (.type "method_descriptor")) (hm : MtR X id r) (ho : PE X o to)
  (hbase : attributeBase o name X.env (eval o X.env) = eval o X.env := by rfl) (hline : (apos.endLine == cpos.line) = true := by rfl) : PE X (.Call (.Attribute o name apos) [] [] cpos) (tBM0 X.K T r to) := by
 intro pins s σ H Q I h
 refine wpAny_Call_method0_late hbase hline (thn (ho pins s σ H _ I h) fun v s1 hz9 => ?_)
 obtain ⟨x, H1, I1, r1, ty, q1⟩ := hz9
 obtain ⟨h1, h2⟩ := zml I1 r1 ty
 exact ⟨T, id, pa, slot, hty, h1, h2, Calls.callWith_builtin rfl (PySem.evalArgs_none (hm pins s1 σ H1 x [] v [] Q I1 r1 .nil q1))⟩
theorem ze8 (pa : PlainAttrs T) (slot : Slot T name id) (hty : typeOf (.builtin id) = pure (.type "method_descriptor")) (hm : MtR X id r) (ho : PE X o to) (ha : PA X (e :: es) t)
  (hbase : attributeBase o name X.env (eval o X.env) = eval o X.env := by rfl)
  (hfew : ((backTo cpos (starEach (e :: es) X.env)).all (fun x => !x.1) && (backToKw cpos (keywordEach [] X.env)).all (fun x => x.1.isSome)
   && decide ((e :: es).length + ([] : List Keyword).length + (if ([] : List Keyword).isEmpty then 0 else 1) < 30)) = true := by rfl)
  (hline : (apos.endLine == cpos.line) = true := by rfl) (hs : starEach (e :: es) X.env = (false, eval e X.env) :: starEach es X.env := by rfl) (hplain : (backTo cpos (starEach es X.env)).any (·.1) = false := by rfl) :
  PE X (.Call (.Attribute o name apos) (e :: es) [] cpos) (tBM X.K T r to t) := by
 intro pins s σ H Q I h
 refine wpAny_Call_method_late hbase hfew hline rfl (thn (ho pins s σ H _ I h) fun v s1 hz9 => ?_)
 obtain ⟨x, H1, I1, r1, ty, q1⟩ := hz9
 obtain ⟨h1, h2⟩ := zml I1 r1 ty
 refine ⟨T, id, pa, slot, hty, h1, h2, ?_⟩
 have hA := ha cpos pins s1 σ H1 _ I1 q1
 rw [hs] at hA ⊢
 refine Calls.callWith_builtin (by show (false || (backTo cpos (starEach es X.env)).any (·.1)) = false; rw [hplain] <;> rfl) (Calls.evalArgs_plain ?_)
 refine thn hA fun us s2 hz9 => ?_
 obtain ⟨vs, H2, I2, r2, q2⟩ := hz9
 exact hm pins s2 σ H2 x vs v us Q I2 r1 r2 q2
end
end L2
namespace L2
open PySem PySem.Spec PyProof.Rows
noncomputable def MtM (X : Cx) (id : String) (r : V -> List V -> Hp -> VK -> Prop) : Prop :=
 ∀ (pins : List (Addr × Obj)) (s : Shared) (σ : St) (H : Hp) (x : V) (xs : List V) (v : Value) (us : List Value) (Q : VK), Inv X pins σ H s -> RelV x v -> Vals xs us -> r x xs H Q ->
  wpAny (model X.prog X.w) X.A (call (.builtin id) (v :: us)) (EP X pins σ Q) X.xe s
theorem Vals.one : ∀ {x : V} {us : List Value}, Vals [x] us -> ∃ u, us = [u] /\ RelV x u
 | _, _, .cons r .nil => ⟨_, rfl, r⟩
theorem Vals.zero : ∀ {us : List Value}, Vals [] us -> us = []
 | _, .nil => rfl
section
variable {X : Cx} {pins : List (Addr × Obj)} {σ : St} {H : Hp} {s : Shared} {l b : Addr} {xs ys zs : List V}
theorem Inv.lset {its its' : List Value} {n : Nat} {f : Array Value -> Array Value} {t' : Nat} (I : Inv X pins σ H s) (hH : H l = some (.lst xs))
  (e : s.heap.get? l = some { cls := .type "list", data := .seq its.toArray n }) (hf : f its.toArray = its'.toArray) (hv : Vals ys its') (hz : ys.length <= sizeLine) :
  Inv X pins σ (upd H l (.lst ys)) { s with heap := s.heap.update l (Obj.mapSeq f), toks := t' } := by
 have q := PySem.IsL.update e f
 rw [hf] at q
 refine I.write (x:=l) (e:=l) (by rw [hH]; exact trivial) (.inl rfl) (fun b' u hb hu => (Heap.get?_update_other s.heap (Obj.mapSeq f) (Ne.symm hb)).trans hu) ⟨_, q⟩ ?_
 exact ⟨hz, its', _, hv, q⟩
theorem Inv.lnew {its : List Value} {t' : Nat} (I : Inv X pins σ H s) (hv : Vals ys its) (hz : ys.length <= sizeLine) :
  Inv X pins σ (upd H s.heap.objs.size (.lst ys)) { s with heap := s.heap.push { cls := .type "list", data := .seq its.toArray }, toks := t' } :=
 I.laid (fun _ _ q => Heap.get?_push_of_some _ q) (Nat.le_refl _) ⟨hz, its, 0, hv, Heap.get?_push_size _ rfl⟩
theorem Inv.fresh (I : Inv X pins σ H s) : H s.heap.objs.size = none := I.hok.fresh (Nat.le_refl _)
theorem Inv.lstM (I : Inv X pins σ H s) (hH : H l = some (.lst xs)) : xs.length <= sizeLine /\ ∃ (its : List Value) (n : Nat), Vals xs its /\ xs.length = its.length /\ s.heap.get? l = some { cls := .type "list", data := .seq its.toArray n } := by
 obtain ⟨z, its, n, r, e⟩ := I.hok l _ hH
 exact ⟨z, its, n, r, r.length, e⟩
end
section
variable {X : Cx}
noncomputable def zjq : V -> List V -> Hp -> VK -> Prop := fun x vs H Q => ∃ l xs y, x = .ref l /\ vs = [y] /\ H l = some (.lst xs) /\ xs.length < sizeLine /\ Q .non (upd H l (.lst (xs ++ [y])))
theorem zde : MtM X "list.append" zjq := by
 intro pins s σ H x vs v us Q I rx rv h
 obtain ⟨l, xs, y, rfl, rfl, hH, hz, q⟩ := h
 cases rx
 obtain ⟨u, rfl, ru⟩ := rv.one
 obtain ⟨z, its, n, r, hl, e⟩ := I.lstM hH
 refine call_meets F.slot_list_append ⟨_, e, rfl⟩ F.entry_list_append (F.args_list_append_2 _ _) (PySem.list_append l its.toArray n u (by rw [List.size_toArray]; omega)) ⟨e, ?_⟩
 refine ⟨.non, _, I.lset (its':=its ++ [u]) hH e (by simp) (r.append (.cons ru .nil)) ?_, rfl, q⟩
 rw [List.length_append, List.length_singleton]
 omega
noncomputable def zmf : V -> List V -> Hp -> VK -> Prop := fun x vs H Q => ∃ l xs, x = .ref l /\ vs = [] /\ H l = some (.lst xs) /\ Q .non (upd H l (.lst []))
theorem zl2 : MtM X "list.clear" zmf := by
 intro pins s σ H x vs v us Q I rx rv h
 obtain ⟨l, xs, rfl, rfl, hH, q⟩ := h
 cases rx
 have hus := rv.zero
 subst hus
 obtain ⟨z, its, n, r, hl, e⟩ := I.lstM hH
 refine call_meets F.slot_list_clear ⟨_, e, rfl⟩ F.entry_list_clear (F.args_list_clear_1 _) (AutoSeq1.list_clear_list_0 l its.toArray n (by rw [List.size_toArray]; omega)) ⟨e, ?_⟩
 exact ⟨.non, _, I.lset (its':=[]) (ys:=[]) hH e rfl .nil (Nat.zero_le _), rfl, q⟩
end
end L2
namespace Att
open PySem PySem.W PySem.Calls PyProof.Rows
theorem zeq {P : Params} {h : Heap} : ∀ (ns : List Int) (vs : List Value), WellAll P h vs (ns.map WData.int) -> IntsAre vs ns := by
 intro ns
 induction ns with
 | nil =>
  intro vs w
  rw [List.map_nil] at w
  cases w
  exact .nil
 | cons n ns ih =>
  intro vs w
  rw [List.map_cons] at w
  cases w with
  | cons a b =>
   cases a
   exact .cons _ _ (ih _ b)
theorem zjw {l : OpenLaw} {n : Nat} (hn : l.most = some n) {P : Params} {h : Heap} {args : List WData} {vals : List Value}
  (hpre : l.row.toRowW.claim.pre args = true) (hwl : WellAll P h vals args) :
  ∃ a vs ns, vals = [Value.ref a] /\ args = [WData.list (ns.map WData.int)] /\ h.get? a = some { cls := .type "list", data := .seq vs.toArray } /\ IntsAre vs ns /\ ns.length <= n := by
 have hsh : WShape.hasAll [] args [.list .int] = true := (pre_splitW hpre).1
 have hc : l.pre.holds [] { args := args } = true := (pre_splitW hpre).2
 obtain ⟨d, r, rfl, h1, h2⟩ := hasAllW_cons hsh
 obtain rfl := hasAllW_nil h2
 obtain ⟨xs, rfl, h3⟩ := hasW_list h1
 obtain ⟨ns, rfl⟩ := items_int h3
 have hlen : ns.length <= n := by
  unfold OpenLaw.pre at hc
  have h4 : (WTm.not (.lt (.lit (.int (n : Int))) (.len (.arg 0)))).holds [] { args := [.list (ns.map .int)] } = true := by
   have h4 := (holds_andW hc).1
   rw [hn] at h4
   exact h4
  have h5 := condW_of h4 (w_not (w_lt w_lit (w_len_list (w_arg rfl))))
  rw [List.length_map] at h5
  refine Nat.le_of_not_lt fun q => ?_
  have q' : (n : Int) < ((ns.length : Nat) : Int) := by omega
  first
   | (rw [decide_eq_true q'] at h5; exact absurd h5 (by decide))
   | (simp at h5; omega)
 cases hwl with
 | cons w1 w2 =>
  cases w2
  cases w1 with
  | list ho hall => exact ⟨_, _, ns, rfl, rfl, ho, zeq ns _ hall, hlen⟩
theorem zkf (l : OpenLaw) (args : List WData) : l.row.toRowW.claim.post args (.bool true) args = true :=
 postW_of (r:=l.row.toRowW) (X:=(true == true))
  (show WShape.has [] (.bool true) .bool = true by first | rfl | decide | simp [WShape.has, WShape.arms, WShape.armsAll])
  (show (WTm.eq .res (.lit (.bool true))).value [] { args := args, res := some (.bool true), after := args } = some (.bool (true == true)) from w_eq_bool (w_res rfl) w_lit) rfl
theorem attach_call {l : OpenLaw} {n : Nat} {q : Program} {loose : List Str} {XP : (Str -> Option Value) -> Heap -> Prop} {YP : World -> Heap -> Prop} {d : DefRec}
  (hn : l.most = some n) (hdf : d.params.defaults = [])
  (call : ∀ (w : World) (s₀ s₁ : Shared) (mg mb : Str -> Option Value) (fa : Addr) (o : Obj) (pm cd doc : Value) (a : Addr) (vs : List Value) (ns : List Int),
   Ground q loose [] XP w s₀ mg mb s₁.heap -> YP w s₁.heap ->
   s₁.heap.get? fa = some o -> o.data = .func (docDef d.name d.params d.body d.scope pm cd doc) -> s₁.heap.CodeRec cd d.name -> mg d.name = some (.ref fa) ->
   s₁.heap.get? a = some { cls := .type "list", data := .seq vs.toArray } -> IntsAre vs ns -> ns.length <= n -> s₁.gens = #[] ->
   codeAny (model l.prog w) callerA (.call (.ref fa) ⟨[.ref a], []⟩) (fun r s' => r = .ok (.ret (.bool true)) /\ OldK s₁.heap s'.heap /\ s'.os = s₁.os /\ AllBare s'.gens) s₁) :
  WalkO q loose XP YP l.row.toRowW d [] (fun f vs => PySem.call f vs) := by
 intro w s₀ s₁ mg mb G Y fa o pm cd doc dV kV ho hd hcd hD hmg hg args vals as hpre hlay hrd hwl hlo
 obtain rfl : dV = .none := Dflts.none hD hdf
 obtain rfl : kV = .none := Dflts.noKw hD
 obtain ⟨a, vs, ns, rfl, rfl, hobj, hints, hlen⟩ := zjw hn hpre hwl
 refine enter_call (codeAny_mono (call w s₀ s₁ mg mb fa o pm cd doc a vs ns G Y ho (fd_plain hd) hcd hmg hobj hints hlen hg) fun r s' hq => ?_)
 obtain ⟨rfl, h2, h3, h4⟩ := hq
 exact ⟨.inl ⟨.bool true, .bool true, [], rfl, fun _ => rfl, .bool true, zkf l _, fun _ => ⟨List.Pairwise.nil, fun _ hm => (nomatch hm)⟩⟩, h2, h3, h4⟩
section
variable {prog : Program} {w : World} {A : Around} {E : Value -> Shared -> Prop} {s : Shared} {K : Frag}
end
end Att
namespace L2
open PySem PySem.Spec PyProof.Rows
theorem zgi : ∀ {vs : List Value} {ns : List Int}, IntsAre vs ns -> Vals (ns.map V.int) vs
 | _, _, .nil => .nil
 | _, _, .cons n t h => .cons ⟨t, rfl⟩ (zgi h)
noncomputable def Only (H : Hp) : Prop := ∀ b, H b = none \/ ∃ o xs, H b = some (.frz o (.lst xs))
theorem zl0 {P : Program} {w : World} {K : PySem.W.Frag} {mg mb : Str -> Option Value} {CX : CXT} {k : Nat} {fa a : Addr} {fd : FuncData} {x : Str} {sp : Sp} {s₁ : Shared} {vs : List Value} {ns : List Int}
  (KX : K.In s₁.heap) (hns : s₁.heap.Ns mainGlobals mg) (hb : s₁.heap.Ns builtinsNs mb) (hbb : ∀ x : Str, x ≠ "__name__" -> mb x = bootBuiltins x) (hlim : s₁.heap.NoLimit) (hg : s₁.gens = #[])
  (ha : s₁.heap.get? a = some { cls := .type "list", data := .seq vs.toArray }) (hi : IntsAre vs ns) (hl : ns.length <= sizeLine) (hr : Room k callerA)
  (F : ∀ base : Heap, K.In base -> base.Ns mainGlobals mg -> FnOk P w K mg base CX k fa fd [x] sp) (hbind : ∀ (s : Shared) (u : Value), BindsTo s fd ⟨[u], []⟩ [(x, u)])
  (hsp : ∀ H : Hp, Only H -> SqL K H a (ns.map V.int) -> sp [.ref a] H (fun v _ => v = .bl true) fun _ _ _ => False)
  (hCX : ∀ H e s', CX [] H s₁ (fun _ _ _ => False) e s' -> False) :
  codeAny (model P w) callerA (.call (.ref fa) ⟨[.ref a], []⟩) (fun r s' => r = .ok (.ret (.bool true)) /\ OldK s₁.heap s'.heap /\ s'.os = s₁.os /\ AllBare s'.gens) s₁ := by
 have rv := zgi hi
 have lenV := hi.length
 -- from an abstract heap in which nothing but the script may be tracked
 have core : ∀ H : Hp, Only H -> SqL K H a (ns.map V.int) -> HOk P w H s₁.heap -> (∀ b, H b ≠ none -> b = a) -> (H a ≠ none -> K.lookup a = none) ->
   codeAny (model P w) callerA (.call (.ref fa) ⟨[.ref a], []⟩) (fun r s' => r = .ok (.ret (.bool true)) /\ OldK s₁.heap s'.heap /\ s'.os = s₁.os /\ AllBare s'.gens) s₁ := by
  intro H hO hS hok hA hK
  have base_of : ∀ {b : Addr} {o : Obj}, s₁.heap.get? b = some o -> H b = none -> (hidT s₁.heap H).get? b = some o := fun e n => zls e n
  have noA : ∀ {b : Addr} {o : Obj} {es : Array DictEntry} {ep : Nat}, s₁.heap.get? b = some o -> o.data = .dict es ep -> H b = none := fun {b o es ep} e d => by
   cases q : H b with
   | none => rfl
   | some u =>
    have e' : b = a := hA b (by rw [q]; simp)
    subst e'
    rw [ha] at e; cases e
    have d' : Data.seq vs.toArray _ = Data.dict es ep := d
    cases d'
  have nsK : ∀ {b : Addr} {m : Str -> Option Value}, s₁.heap.Ns b m -> (hidT s₁.heap H).Ns b m := fun {b m} ⟨o, es, ep, e, d, r⟩ => ⟨o, es, ep, base_of e (noA e d), d, r⟩
  have hKb : K.In (hidT s₁.heap H) := fun b o e => base_of (KX b o e) (by
   cases q : H b with
   | none => rfl
   | some u =>
    have e' : b = a := hA b (by rw [q]; simp)
    subst e'
    rw [hK (by rw [q]; simp)] at e; cases e)
  have hM : Mod K mg (hidT s₁.heap H) := ⟨hKb, nsK hns, ⟨mb, nsK hb, hbb⟩, let ⟨mc, h1, h2⟩ := hlim; ⟨mc, nsK h1, h2⟩⟩
  have e0 : Env0 P w K mg (hidT s₁.heap H) callerA [] s₁ H := ⟨rfl, hM, fun b o e => zm9 e, Nat.le_of_eq (zk0 _ _), trivial, fun b hb => absurd (show b ∈ ([] : List Addr) from hb) (by simp), hok, .of_eq hg⟩
  refine codeAny_mono ((F _ hKb (nsK hns)).run callerA [] s₁ H ⟨[.ref a], []⟩ [.ref a] [.ref a] _ _ hr e0 (hbind s₁ (.ref a)) (.cons rfl .nil) (hsp H hO hS)) fun r s' h => ?_
  cases r with
  | error e => exact (hCX H e s' h).elim
  | ok fl =>
   cases fl with
   | next => exact False.elim h
   | brk => exact False.elim h
   | cont => exact False.elim h
   | ret u =>
    obtain ⟨v, H', os, bare, un, hok', r', q⟩ := h
    have q' : v = .bl true := q
    subst q'
    obtain rfl : u = Value.bool true := r'
    refine ⟨rfl, OldK.of_keep fun b o e => ?_, os, bare⟩
    cases q : H b with
    | none => exact un.keep b o e q (by intro z; exact absurd (show b ∈ ([] : List Addr) from z) (by simp)) (by simp)
    | some u =>
     rcases hO b with z | ⟨ob, xs, z⟩
     ·rw [q] at z; cases z
     ·have z2 := un.frzs b ob _ z
      obtain ⟨e1, _⟩ := hok b _ z
      obtain ⟨e2, _⟩ := hok' b _ z2
      rw [e] at e1; cases e1
      exact e2
 cases hk : K.lookup a with
 | some o =>
  -- the script is one of the module's own objects
  have e := KX a o hk
  rw [ha] at e
  cases e
  refine core (fun _ => none) (fun _ => .inl rfl) (.inr ⟨_, vs.toArray, _, hk, rfl, rfl, rfl, by rw [List.size_toArray, lenV]; exact hl, by simpa using rv⟩) (fun b u z => by have z' : (none : Option HO) = some u := z; cases z') (fun b z => absurd rfl z) fun z => absurd rfl z
 | none =>
  refine core (fun b => if b = a then some (.frz { cls := .type "list", data := .seq vs.toArray } (.lst (ns.map V.int))) else none) (fun b => ?_) (.inl (.inr ⟨{ cls := .type "list", data := .seq vs.toArray }, if_pos rfl⟩)) (fun b u z => ?_) (fun b z => ?_) fun _ => hk
  ·by_cases hb : b = a
   ·exact .inr ⟨_, _, if_pos hb⟩
   ·exact .inl (if_neg hb)
  ·by_cases hb : b = a
   ·have z' := (if_pos hb).symm.trans z
    cases z'
    subst hb
    exact ⟨ha, by rw [List.length_map]; exact hl, vs, _, rv, ha⟩
   ·have z' := (if_neg hb).symm.trans z
    cases z'
  ·by_cases hb : b = a
   ·exact hb
   ·exact absurd (if_neg hb) z
end L2
namespace L2
open PySem PySem.Spec PyProof.Rows
theorem walk_of {l : PySem.W.OpenLaw} {n k : Nat} {q : Program} {loose : List Str} {XP : (Str -> Option Value) -> Heap -> Prop} {YP : World -> Heap -> Prop} {d : DefRec} {K : Params -> PySem.W.Frag} {CX : World -> CXT} {sp : World -> Sp} {x : Str}
  (hn : l.most = some n) (hn2 : n <= sizeLine) (hdf : d.params.defaults = []) (hr : Room k callerA)
  (hY : ∀ (w : World) (h : Heap), YP w h -> (K w.params).In h)
  (F : ∀ (w : World) (mg : Str -> Option Value) (fa : Addr) (h : Heap), (K w.params).In h -> h.Ns mainGlobals mg -> mg d.name = some (.ref fa) ->
   ∃ fd : FuncData, (∀ (s : Shared) (u : Value), BindsTo s fd ⟨[u], []⟩ [(x, u)]) /\
    ∀ base : Heap, (K w.params).In base -> base.Ns mainGlobals mg -> FnOk l.prog w (K w.params) mg base (CX w) k fa fd [x] (sp w))
  (hsp : ∀ (w : World) (H : Hp) (a : Addr) (ns : List Int), ns.length <= n -> Only H -> SqL (K w.params) H a (ns.map V.int) -> sp w [.ref a] H (fun v _ => v = .bl true) fun _ _ _ => False)
  (hCX : ∀ (w : World) (H : Hp) (s : Shared) (e : Value) (s' : Shared), CX w [] H s (fun _ _ _ => False) e s' -> False) :
  PySem.W.WalkO q loose XP YP l.row.toRowW d [] (fun f vs => PySem.call f vs) := by
 refine Att.attach_call hn hdf fun w s₀ s₁ mg mb fa o pm cd doc a vs ns G Y ho hd hcd hmg hobj hints hlen hg => ?_
 have KX := hY w _ Y
 obtain ⟨fd, hb, hF⟩ := F w mg fa _ KX G.T.g hmg
 exact zl0 KX G.T.g G.T.b G.T.builtins G.T.nolimit hg hobj hints (Nat.le_trans hlen hn2) hr hF hb (fun H hO hS => hsp w H a ns hlen hO hS) fun H e s' => hCX w H s₁ e s'
end L2
namespace L2
open PySem PySem.Spec PyProof.Rows
noncomputable def zaj (s : Stmt) : Arguments := match s with
 | .FunctionDef _ a _ _ _ _ _ _ _ _ => a
 | _ => { posonlyargs := [], args := [], vararg := none, kwonlyargs := [], kw_defaults := [], kwarg := none, defaults := [] }
noncomputable def zah (s : Stmt) : List Stmt := match s with
 | .FunctionDef _ _ b _ _ _ _ _ _ _ => b
 | _ => []
noncomputable def zac (s : Stmt) : Scope := match s with
 | .FunctionDef _ _ _ _ _ _ sc _ _ _ => sc
 | _ => { kind := .function, names := [], isGenerator := false, isCoroutine := false }
noncomputable abbrev CX0 : CXT := fun _ _ _ _ _ _ => False
noncomputable abbrev E0 : XK := fun _ _ _ => False
theorem zcc {X : Cx} : zey CX0 X E0 := fun _ _ _ _ _ _ _ h => h.elim
structure Fun (K : PySem.W.Frag) (x qual : Str) (st : Stmt) (f : Addr) (fd : FuncData) : Prop where
 ex : ∃ (oc : Value) (od : Option Addr) (kV doc pm : Value) (an : Option Addr) (cdv ct : Value) (osl : Array (Option Value)),
  fd = PySem.W.fnOf x qual (zaj st) (zah st) (zac st) .none kV doc pm an cdv ct /\ K.lookup f = some ⟨oc, od, .func fd, osl⟩ /\ PySem.W.codeIn K cdv qual = true
 kp : PySem.W.keepIn K (.ref f) = true
section
variable {P : Program} {w : World} {K : PySem.W.Frag} {mg : Str -> Option Value} {base : Heap}
theorem Fun.ok {x qual : Str} {st : Stmt} {f : Addr} {fd : FuncData} {N ps : List Str} {k : Nat} {sp : Sp} (F : Fun K x qual st f fd) (S : FnScope N ps (zac st)) (len : ∀ vs H Q E, sp vs H Q E -> vs.length = ps.length)
  (hbody : ∀ (cdv : Value) (A : Around) (outer : List Env) (s : Shared) (H : Hp) (vs : List V) (Q : VK) (E : XK), Room k (A.deeper (envOfC qual (zac st) s.heap.objs.size f cdv)) -> sp vs H Q E ->
   ∃ t, PSs (cxOf CX0 P w K mg base N qual (zac st) f cdv A outer s H E).nox (zah st) t /\ t { nx := fun _ H' => Q .non H', rt := Q } (start N vs) H) : FnOk P w K mg base CX0 (k + 1) f fd ps sp := by
 obtain ⟨oc, od, kV, doc, pm, an, cdv, ct, osl, rfl, lk, hcd⟩ := F.ex
 refine zpw lk hcd S len fun A outer s H vs Q E hr hsp => ?_
 obtain ⟨t, h, q⟩ := hbody cdv A outer s H vs Q E hr hsp
 exact ⟨t, h.nox, q⟩
theorem Fun.binds {x qual : Str} {st : Stmt} {f : Addr} {fd : FuncData} {ps : List Str} (F : Fun K x qual st f fd)
  (h : ∀ (kV doc pm : Value) (an : Option Addr) (cdv ct : Value) (us : List Value), us.length = ps.length -> bindArgs (PySem.W.fnOf x qual (zaj st) (zah st) (zac st) .none kV doc pm an cdv ct) ⟨us, []⟩ = pure (ps.zip us)) : zbp K fd ps [] := by
 obtain ⟨oc, od, kV, doc, pm, an, cdv, ct, osl, rfl, lk, hcd⟩ := F.ex
 exact .all (h kV doc pm an cdv ct)
theorem zbo {x qual : Str} {st : Stmt} {f : Addr} {oc : Value} {od an : Option Addr} {osl : Array (Option Value)} {kV doc pm cdv ct : Value} (l : K.lookup f = some ⟨oc, od, .func (PySem.W.fnOf x qual (zaj st) (zah st) (zac st) .none kV doc pm an cdv ct), osl⟩)
  (c : PySem.W.codeIn K cdv qual = true) (k : PySem.W.keepIn K (.ref f) = true) : Fun K x qual st f (PySem.W.fnOf x qual (zaj st) (zah st) (zac st) .none kV doc pm an cdv ct) := ⟨⟨oc, od, kV, doc, pm, an, cdv, ct, osl, rfl, l, c⟩, k⟩
end
section
variable {X : Cx}
theorem pv (i : Nat) {x : Str} {pos : Pos} (hN : X.N[i]? = some x := by rfl) (hv : Vis X.env.scope x := by first | exact Or.inl rfl | exact Or.inr (Or.inl rfl) | exact Or.inr (Or.inr rfl)) (hd : (x == ("__debug__" : Str)) = false := by decide)
  (hcd : (x == ("__classdict__" : Str)) = false := by decide) : PE X (.Name x pos) (tVar i) := zo1 hN hv hd hcd
end
theorem iteF {A B : Prop} (h : B) : if false = true then A else B := by
 rw [if_neg Bool.false_ne_true]
 exact h
theorem iteT {A B : Prop} (h : A) : if true = true then A else B := by
 rw [if_pos rfl]
 exact h
noncomputable def Same (H H' : Hp) : Prop := ∀ b o, H b = some o -> H' b = some o
theorem Same.refl (H : Hp) : Same H H := fun _ _ h => h
theorem Same.trans {H H1 H2 : Hp} (a : Same H H1) (b : Same H1 H2) : Same H H2 := fun c o h => b c o (a c o h)
theorem Same.free {H H' : Hp} (e : Same H H') {l : Addr} (h : H' l = Option.none) : H l = Option.none := by
 cases q : H l with
 | none => rfl
 | some o =>
  rw [e l o q] at h
  cases h
theorem Same.seq {K : PySem.W.Frag} {H H' : Hp} {a : Addr} {xs : List V} (e : Same H H') (h : SqL K H a xs) : SqL K H' a xs := by
 rcases h with (h | ⟨o, h⟩) | h
 ·exact .inl (.inl (e _ _ h))
 ·exact .inl (.inr ⟨o, e _ _ h⟩)
 ·exact .inr h
end L2
set_option maxHeartbeats 4000000
namespace L2
open PySem PySem.Spec PyProof.Rows
noncomputable abbrev KT (H : Hp) : List (List Key × V) -> List (List Key × Addr × Value) -> Prop := Paired fun p q => p.1 = q.1 /\ H q.2.1 = some (.tup (p.1.map kV)) /\ RelV p.2 q.2.2
section
variable {X : Cx} {pins : List (Addr × Obj)} {σ : St} {H : Hp} {s : Shared} {a : Addr} {y v : V} {u r : Value} {o : Option V} {A : Around} {E : Value -> Shared -> Prop}
end
structure M1 (X : Cx) (o : Expr) (m : Str) (apos : Pos) (e : Expr) (cpos : Pos) : Prop where
 base : attributeBase o m X.env (eval o X.env) = eval o X.env
 few : ((backTo cpos (starEach [e] X.env)).all (fun x => !x.1) && (backToKw cpos (keywordEach [] X.env)).all (fun x => x.1.isSome)
  && decide (([e] : List Expr).length + ([] : List Keyword).length + (if ([] : List Keyword).isEmpty then 0 else 1) < 30)) = true
 line : (apos.endLine == cpos.line) = true
 trees : backTo cpos (starEach [e] X.env) = [(false, eval e X.env)]
structure M2 (X : Cx) (o : Expr) (m : Str) (apos : Pos) (e f : Expr) (cpos : Pos) : Prop where
 base : attributeBase o m X.env (eval o X.env) = eval o X.env
 few : ((backTo cpos (starEach [e, f] X.env)).all (fun x => !x.1) && (backToKw cpos (keywordEach [] X.env)).all (fun x => x.1.isSome)
  && decide (([e, f] : List Expr).length + ([] : List Keyword).length + (if ([] : List Keyword).isEmpty then 0 else 1) < 30)) = true
 line : (apos.endLine == cpos.line) = true
 trees : backTo cpos (starEach [e, f] X.env) = [(false, eval e X.env), (false, eval f X.env)]
end L2
namespace L2
open PySem PySem.Spec PyProof.Rows
end L2
namespace L2
open PySem PySem.Spec PyProof.Rows PySem.Builtin PySem.Builtin.Str
noncomputable def T (l : List Nat) : Str := ⟨l.toArray⟩
theorem ze9 (l : List Nat) : (T l).cps.toList = l := by simp [T]
theorem zo4 {a b : List Nat} : T a = T b ↔ a = b := by
 constructor
 ·intro h
  have := congrArg (fun x : Str => x.cps.toList) h
  simpa [T] using this
 ·rintro rfl; rfl
theorem zb3 (l : List Nat) : (T l).length = l.length := by simp [T, Str.length]
theorem zn9 (a b : List Nat) : T a ++ T b = T (a ++ b) := by
 show Str.append (T a) (T b) = _
 simp [Str.append, T]
theorem zl9 (a b : List Nat) : decide ((V.str (T a)) = V.str (T b)) = decide (a = b) := by
 by_cases h : a = b
 ·subst h; simp
 ·rw [decide_eq_false h, decide_eq_false]
  intro q; injection q with q; exact h (zo4.mp q)
section
variable {X : Cx}
theorem zgu : ∀ (l : List (Str × Tok)), Vals ((l.map (·.1)).map V.str) (strValues l)
 | [] => .nil
 | p :: r => .cons ⟨p.2, rfl⟩ (zgu r)
theorem zge : ∀ {ys : List Str} {us : List Value}, Vals (ys.map V.str) us -> StrsAre us ys
 | [], _, h => by cases h; exact .nil
 | y :: r, _, h => by
  cases h with
  | cons a b =>
   obtain ⟨t, rfl⟩ := a
   exact .cons y t (zge b)
noncomputable def zmg : V -> List V -> Hp -> VK -> Prop := fun x vs H Q => ∃ z y, x = .str z /\ vs = [.str y] /\ (y.length == 0) = false /\ z.length + 2 <= sizeLine /\ ∀ p, H p = none -> Q (.ref p) (upd H p (.lst ((Txt.split z y).map V.str)))
theorem zjp (x y : Str) : (Txt.split x y).length <= x.length + 2 := by
 unfold Txt.split
 split
 ·simp
 ·split
  ·simp
  ·rw [length_partsBetween]
   have := StrLaws.occ_length_le x y 0 x.length (x.length + 1)
   lia
theorem zit : MtR X "str.split" zmg := by
 intro pins s σ H x xs v us Q I rx rs h
 obtain ⟨z, y, rfl, rfl, hy, hz, q⟩ := h
 obtain ⟨t, rfl⟩ := rx
 obtain ⟨u, rfl, ru⟩ := Vals.one rs
 obtain ⟨u, rfl⟩ := ru
 have hlen := zjp z y
 have fin : ∀ (l : List (Str × Tok)) (k : Nat), l.map (·.1) = Txt.split z y ->
   EP X pins σ Q (.ref s.heap.objs.size) { s with heap := s.heap.push { cls := .type "list", data := .seq (strValues l).toArray }, toks := k } := fun l k e => by
  have v1 := zgu l
  rw [e] at v1
  exact ⟨.ref s.heap.objs.size, _, I.lnew v1 (by rw [List.length_map]; lia), rfl, q _ I.fresh⟩
 have hn : (partsBetween z (occurrences z y 0 z.length (z.length + 1)) y.length).length <= sizeLine := by
  have e1 := StrLaws.occ_length_le z y 0 z.length (z.length + 1)
  rw [length_partsBetween]; lia
 cases h1 : (decide (z.length < y.length) || decide (strKind z < strKind y))
 ·cases hf : (occurrences z y 0 z.length (z.length + 1)).isEmpty
  ·refine call_meets F.slot_str_split (typeIs_str _ _ _) F.entry_str_split (F.args_str_split_2 _ _) (meets_str_split_sep z y t u h1 hy hf (by lia) hn) ?_
   show wants (EP X pins σ Q) X.xe _ { s with toks := _, heap := s.heap.push { cls := .type "list", data := .seq (strsFrom s.toks (partsBetween z (occurrences z y 0 z.length (z.length + 1)) y.length)).toArray } }
   rw [strsFrom_eq]
   exact fin (numbered s.toks _) _ ((numbered_texts _ _).trans ((if_neg (ne_true_of_eq_false h1)).trans (if_neg (ne_true_of_eq_false hf))).symm)
  ·exact call_meets F.slot_str_split (typeIs_str _ _ _) F.entry_str_split (F.args_str_split_2 _ _) (meets_str_split_not_found z y t u h1 hy hf)
    (fin [(z, t)] s.toks ((if_neg (ne_true_of_eq_false h1)).trans (if_pos hf)).symm)
 ·exact call_meets F.slot_str_split (typeIs_str _ _ _) F.entry_str_split (F.args_str_split_2 _ _) (meets_str_split_cannot_occur z y t u h1)
   (fin [(z, t)] s.toks (if_pos h1).symm)
noncomputable def zpi (K : PySem.W.Frag) : V -> List V -> Hp -> VK -> Prop := fun x vs H Q => ∃ z p ys, x = .str z /\ vs = [.ref p] /\ SqL K H p (ys.map V.str) /\ (ys.map (·.length)).sum + ys.length * z.length <= 16777216 /\ Q (.str (Str.join z ys)) H
theorem zh9 : MtR X "str.join" (zpi X.K) := by
 intro pins s σ H x xs v us Q I rx rs h
 obtain ⟨z, p, ys, rfl, rfl, hl, hz, q⟩ := h
 obtain ⟨t, rfl⟩ := rx
 obtain ⟨u, rfl, ru⟩ := Vals.one rs
 cases ru
 obtain ⟨its, r, pl, _⟩ := I.list hl
 refine join_list pl.isList (ys:=ys) (by simpa using zge r) hz fun t' k => ⟨.str _, H, I.tok _, ⟨_, by show _ = Value.str (Str.join z ys) t'; rw [<- StrLaws.glued_eq_join]; rfl⟩, q⟩
end
noncomputable def Its (x : Str) : It := ⟨fun i _ => i < x.cps.toList.length, fun i H v H' => H' = H /\ ∃ c, x.cps.toList[i]? = some c /\ v = .str (T [c]), fun i _ => x.cps.toList.length <= i⟩
theorem zhb {P : Program} {w : World} {K : PySem.W.Frag} {tg : Expr} {it : Addr} {n : Nat} {R : Nat -> Value -> Prop} {St : Nat -> Heap -> Prop} {J : It}
  (W : ∀ A' : Around, A'.handled = none -> Walks P w A' it [it] [it] n R St) (hself : ∀ (A' : Around) (i : Nat) (s : Shared) (Q : Value -> Shared -> Prop) (E : Value -> Shared -> Prop), St i s.heap -> Q (.ref it) s -> wpAny (model P w) A' (pyIter (.ref it)) Q E s) (ho : ∀ i h, St i h -> ∃ o T vs, h.get? it = some o /\ o.cls = .type T /\ o.data = .fields vs /\ ["enumerate", "zip", "dict_itemiterator", "dict_reverseitemiterator", "odict_iterator", "itertools.zip_longest", "itertools.pairwise"].contains T = false)
  (hgo : ∀ i H, J.go i H -> i < n) (hst : ∀ i H, J.stop i H -> n <= i) (hy : ∀ i v H, i < n -> R i v -> ∃ x, RelV x v /\ J.yld i H x H) : Turn P w K tg J [it] it (fun i h => i <= n /\ St i h) where
 mem := by simp
 obj := fun i h st b hb => by
  have e : b = it := by simpa using hb
  subst e
  obtain ⟨o, T, vs, e, c, d, _⟩ := ho i h st.2
  exact ⟨o, e, fun v z => by rw [d] at z; cases z⟩
 keep := fun i h h' st k => ⟨st.1, by
  have W0 := W ({} : Around) rfl
  exact W0.frame i h h' st.2 fun b hb o e => k b hb o e⟩
 item := by
  intro X hP hw hK hc i pins s σ H E I hf st hg
  subst hP hw hK
  obtain ⟨f0, f1, f2, f3, f4, f5⟩ := hf it (by simp)
  have hi := hgo i H hg
  refine (W X.A (I.ok.hd hc)).item i s _ _ hi st.2 fun v h' tk hv st' kk => ?_
  obtain ⟨x, rx, yx⟩ := hy i v H hi hv
  have I1 : Inv X pins σ H { s with heap := h', toks := tk } := I.turned (fun b o hb e => kk b o (by simpa using hb) e) f0 f1 f3 f4 f5
  obtain ⟨o, T, vs, e, c, d, nz⟩ := ho _ _ st'
  exact ⟨v, rfl, znu (s:={ s with heap := h', toks := tk }) (n:=T) e c d nz ⟨x, H, I1, rx, yx, ⟨hi, st'⟩, fun b hb => (hf b hb).1⟩⟩
 done := by
  intro X hP hw hK hc i pins s σ H E I hf st hg
  subst hP hw hK
  obtain ⟨f0, f1, f2, f3, f4, f5⟩ := hf it (by simp)
  have e : i = n := Nat.le_antisymm st.1 (hst i H hg)
  subst e
  exact (W X.A (I.ok.hd hc)).done s _ _ st.2 fun h' tk kk => ⟨rfl, I.turned (fun b o hb e => kk b o (by simpa using hb) e) f0 f1 f3 f4 f5⟩
 self := fun A i s Q E st h => hself A i s Q E st.2 h
section
variable {X : Cx} {tg : Expr}
noncomputable def iStr (tl : TE) : TI := fun σ H R => tl σ H fun x H1 => ∃ z, x = .str z /\ R (Its z) H1
theorem zpp {l : Expr} {tl : TE} (hl : PE X l tl) : PI X tg l (iStr tl) := by
 intro pins s σ H R I h
 refine thn (hl pins s σ H _ I h) fun v s1 hz9 => ?_
 obtain ⟨x, H1, I1, r1, q1⟩ := hz9
 obtain ⟨z, e, q⟩ := q1
 subst e
 obtain ⟨t, rfl⟩ := r1
 have fin : ∀ (o : Obj) (St : Nat -> Heap -> Prop), Turn X.prog X.w X.K tg (Its z) [s1.heap.objs.size] s1.heap.objs.size (fun i h => i <= z.cps.size /\ St i h) -> St 0 (s1.heap.push o) ->
   PIE X pins σ tg R (.ref s1.heap.objs.size) { s1 with heap := s1.heap.push o } := fun o St Tn st => by
  refine ⟨s1.heap.objs.size, [s1.heap.objs.size], _, _, H1, rfl, I1.kept (t':=s1.toks) fun b o e => Heap.get?_push_of_some _ e, Tn, ⟨Nat.zero_le _, st⟩, fun b hb => ?_, q⟩
  have e : b = s1.heap.objs.size := by simpa using hb
  subst e
  exact I1.fpOk (Nat.le_refl _) (I1.hok.fresh (Nat.le_refl _))
 have hgo : ∀ i H, (Its z).go i H -> i < z.cps.size := fun i _ h => by simpa [Its] using h
 have hst : ∀ i H, (Its z).stop i H -> z.cps.size <= i := fun i _ h => by simpa [Its] using h
 have hy : ∀ i v H, i < z.cps.size -> SignAt z i v -> ∃ x, RelV x v /\ (Its z).yld i H x H := fun i v H hi ⟨c, u, hc, e⟩ => by
  subst e
  exact ⟨.str (T [c]), ⟨u, rfl⟩, rfl, c, by simpa using hc, rfl⟩
 cases ha : z.cps.all (· < 128)
 ·refine wpAny_pyIter_wide ha (fin _ _ (zhb (n:=z.cps.size) (R:=SignAt z) (St:=fun i h => h.IsStrIter s1.heap.objs.size "str_iterator" z t i) (fun A' hA => Walks.strWide hA _ z t) (fun _ _ _ _ _ st q => wpAny_pyIter_striter_wide st q) (fun i h st => ?_) hgo hst hy) ⟨_, Heap.get?_push_size _ rfl, rfl, rfl⟩)
  obtain ⟨o, e, c, d⟩ := st
  exact ⟨o, _, _, e, c, d, by decide⟩
 ·refine wpAny_pyIter_ascii ha (fin _ _ (zhb (n:=z.cps.size) (R:=SignAt z) (St:=fun i h => h.IsStrIter s1.heap.objs.size "str_ascii_iterator" z t i) (fun A' hA => Walks.strAscii hA _ z t) (fun _ _ _ _ _ st q => wpAny_pyIter_striter_ascii st q) (fun i h st => ?_) hgo hst hy) ⟨_, Heap.get?_push_size _ rfl, rfl, rfl⟩)
  obtain ⟨o, e, c, d⟩ := st
  exact ⟨o, _, _, e, c, d, by decide⟩
end
end L2
namespace L2
open PySem PySem.Spec PyProof.Rows
noncomputable def clos (cells : List (Str × Addr)) : List (Str × NameKind) -> List (Str × Addr) -> List (Str × Addr)
 | [], acc => acc
 | (n, k) :: r, acc => if k == .free then (match cells.lookup n with | some c => clos cells r ((n, c) :: acc) | none => clos cells r acc) else clos cells r acc
theorem zeg {cells : List (Str × Addr)} : ∀ (names : List (Str × NameKind)) (acc : List (Str × Addr)), (∀ x c, acc.lookup x = some c -> cells.lookup x = some c) -> ∀ x c, (clos cells names acc).lookup x = some c -> cells.lookup x = some c
 | [], _, h => h
 | (n, k) :: r, acc, h => by
  intro x c
  unfold clos
  split
  ·cases e : cells.lookup n with
   | none => exact zeg r acc h x c
   | some d =>
    refine zeg r _ (fun y z hy => ?_) x c
    rw [List.lookup_cons] at hy
    cases q : y == n with
    | true =>
     rw [q] at hy
     have : y = n := by simpa using q
     subst this
     simpa [e] using hy
    | false => rw [q] at hy; exact h y z hy
  ·exact zeg r acc h x c
theorem zef {cells : List (Str × Addr)} : ∀ (names : List (Str × NameKind)) (acc : List (Str × Addr)) (x : Str), (acc.lookup x).isSome = true -> ((clos cells names acc).lookup x).isSome = true
 | [], _, _, h => h
 | (n, k) :: r, acc, x, h => by
  unfold clos
  split
  ·cases e : cells.lookup n with
   | none => exact zef r acc x h
   | some d =>
    refine zef r _ x ?_
    rw [List.lookup_cons]
    cases q : x == n with
    | true => rfl
    | false => exact h
  ·exact zef r acc x h
theorem zek {cells : List (Str × Addr)} : ∀ (names : List (Str × NameKind)) (acc : List (Str × Addr)) (x : Str), (x, NameKind.free) ∈ names -> (cells.lookup x).isSome = true -> ((clos cells names acc).lookup x).isSome = true
 | (n, k) :: r, acc, x, hm, hs => by
  unfold clos
  rcases List.mem_cons.mp hm with e | hm
  ·cases e
   simp only [beq_self_eq_true, if_true]
   obtain ⟨c, hc⟩ := Option.isSome_iff_exists.mp hs
   rw [hc]
   refine zef r _ _ ?_
   simp [List.lookup_cons]
  ·split
   ·cases e : cells.lookup n with
    | none => exact zek r acc x hm hs
    | some d => exact zek r _ x hm hs
   ·exact zek r acc x hm hs
theorem zi5 {scope : Scope} {env : Env} (h : ∀ x, (x, NameKind.free) ∈ scope.names -> (env.cells.lookup x).isSome = true) : closureFor scope env = pure (clos env.cells scope.names []) := by
 have gen : ∀ (names : List (Str × NameKind)) (acc : List (Str × Addr)), (∀ x, (x, NameKind.free) ∈ names -> (env.cells.lookup x).isSome = true) ->
   (forIn names acc (fun (p : Str × NameKind) (r : List (Str × Addr)) => (if p.2 == NameKind.free then (do let c <- cellOf env p.1; pure (ForInStep.yield ((p.1, c) :: r))) else pure (ForInStep.yield r) : Sem (ForInStep (List (Str × Addr)))))) = pure (clos env.cells names acc) := by
  intro names
  induction names with
  | nil => intro acc _; rfl
  | cons p r ih =>
   obtain ⟨n, k⟩ := p
   intro acc hh
   rw [List.forIn_cons]
   unfold clos
   cases hk : k == NameKind.free with
   | false =>
    simp only [hk, Bool.false_eq_true, if_false]
    exact ih acc fun x hx => hh x (List.mem_cons_of_mem _ hx)
   | true =>
    have hk' : k = .free := by simpa using hk
    subst hk'
    obtain ⟨c, hc⟩ := Option.isSome_iff_exists.mp (hh n List.mem_cons_self)
    have e : cellOf env n = pure c := by unfold cellOf; rw [hc]
    simp only [beq_self_eq_true, if_true, e, hc]
    exact ih _ fun x hx => hh x (List.mem_cons_of_mem _ hx)
 exact (congrArg (fun (m : Sem (List (Str × Addr))) => m >>= fun cs => pure cs) (gen scope.names [] h)).trans rfl
noncomputable def lcS (nt : Nat) (cs : List Nat) (σ : St) : St := List.replicate nt none ++ cs.map fun i => (σ[i]?).getD none
noncomputable def lcCx (X : Cx) (N' : List Str) (scope : Scope) (s : Shared) (H : Hp) (C : Addr) (fp : List Addr) : Cx :=
 { X with N := N', s₀ := s, H₀ := H, env := compEnvC scope (clos X.env.cells scope.names []) C X.env, outer := X.stack, stack := X.stack, ex := fp, fn := fun _ => false, pn := [], xe := fun _ _ => False }
noncomputable def lcOk (Nx : List Str) (sc scope : Scope) (N' : List Str) (nt : Nat) (cs : List Nat) : Bool :=
 decide (scope.kind = .function) && (scope.names.all fun p => match p.2 with
  | .cell => false
  | .local => decide (scope.names.lookup p.1 = some .local)
  | .free => decide (sc.names.lookup p.1 = some .cell) || decide (sc.names.lookup p.1 = some .free)
  | _ => true) && decide (N'.length = nt + cs.length) && (((N'.drop nt).zip cs).all fun p => decide (Nx[p.2]? = some p.1) && decide (scope.names.lookup p.1 = some .free) && (decide (sc.names.lookup p.1 = some .cell) || decide (sc.names.lookup p.1 = some .free)))
structure LcOk (X : Cx) (scope : Scope) (N' : List Str) (nt : Nat) (cs : List Nat) : Prop where
 kind : scope.kind = .function
 nocell : ∀ y ∈ scope.names, y.2 ≠ .cell
 loc : ∀ y ∈ scope.names, y.2 = .local -> scope.names.lookup y.1 = some .local
 fr : ∀ x, (x, NameKind.free) ∈ scope.names -> X.env.kindOf x = some .cell \/ X.env.kindOf x = some .free
 len : N'.length = nt + cs.length
 cap : ∀ j i, cs[j]? = some i -> ∃ x, N'[nt + j]? = some x /\ X.N[i]? = some x /\ scope.names.lookup x = some .free /\ Vis X.env.scope x /\ X.env.kindOf x ≠ some .local
theorem LcOk.of {X : Cx} {scope : Scope} {N' : List Str} {nt : Nat} {cs : List Nat} {Nx : List Str} {sc : Scope} (hN : X.N = Nx) (hs : X.env.scope = sc) (h : lcOk Nx sc scope N' nt cs = true) : LcOk X scope N' nt cs := by
 subst hN hs
 unfold lcOk at h
 simp only [Bool.and_eq_true, decide_eq_true_eq, List.all_eq_true] at h
 obtain ⟨⟨⟨h1, h2⟩, h3⟩, h4⟩ := h
 refine ⟨h1, fun y hy e => ?_, fun y hy e => ?_, fun x hx => ?_, h3, fun j i e => ?_⟩
 ·have := h2 y hy; rw [e] at this; exact Bool.false_ne_true this
 ·have := h2 y hy; rw [e] at this; exact of_decide_eq_true this
 ·have := h2 _ hx
  simp only [Bool.or_eq_true, decide_eq_true_eq] at this
  exact this
 ·have hj : j < cs.length := (List.getElem?_eq_some_iff.mp e).1
  have hd : (N'.drop nt).length = cs.length := by rw [List.length_drop, h3]; lia
  have hx : (N'.drop nt)[j]? = some ((N'.drop nt)[j]'(by lia)) := by simp [hd, hj]
  generalize (N'.drop nt)[j]'(by lia) = x at hx
  have hz : (x, i) ∈ (N'.drop nt).zip cs := by
   refine List.mem_of_getElem? (i:=j) ?_
   rw [List.getElem?_zip_eq_some]
   exact ⟨hx, e⟩
  have q := h4 _ hz
  simp only [Bool.and_eq_true, Bool.or_eq_true, decide_eq_true_eq] at q
  refine ⟨x, by rw [List.getElem?_drop] at hx; exact hx, q.1.1, q.1.2, ?_, fun z => ?_⟩
  ·exact q.2.elim (fun z => .inr (.inl z)) fun z => .inr (.inr z)
  ·have z' : X.env.scope.names.lookup x = some .local := z
   rcases q.2 with y | y <;> · rw [z'] at y; cases y
theorem zd7 {env : Env} : ∀ {names : List (Str × NameKind)} {x : Str}, names.lookup x = some .free ->
  (names.map fun (n, k) => if (k == NameKind.free && env.scope.kind == .function && env.kindOf n == some .cell) then (n, NameKind.cell) else (n, k)).lookup x = some .cell \/
  (names.map fun (n, k) => if (k == NameKind.free && env.scope.kind == .function && env.kindOf n == some .cell) then (n, NameKind.cell) else (n, k)).lookup x = some .free
 | [], _, h => by simp at h
 | (n, k) :: r, x, h => by
  have ih := @zd7 env r x
  show List.lookup x ((if (k == NameKind.free && env.scope.kind == .function && env.kindOf n == some .cell) = true then (n, NameKind.cell) else (n, k)) :: _) = _ \/ List.lookup x ((if (k == NameKind.free && env.scope.kind == .function && env.kindOf n == some .cell) = true then (n, NameKind.cell) else (n, k)) :: _) = _
  cases hx : x == n with
  | true =>
   simp only [List.lookup_cons, hx] at h
   cases h
   by_cases hc : (NameKind.free == NameKind.free && env.scope.kind == .function && env.kindOf n == some .cell) = true
   ·rw [if_pos hc]; left; simp only [List.lookup_cons, hx]
   ·rw [if_neg hc]; right; simp only [List.lookup_cons, hx]
  | false =>
   simp only [List.lookup_cons, hx] at h
   by_cases hc : (k == NameKind.free && env.scope.kind == .function && env.kindOf n == some .cell) = true
   ·rw [if_pos hc]; simp only [List.lookup_cons, hx]; exact ih h
   ·rw [if_neg hc]; simp only [List.lookup_cons, hx]; exact ih h
theorem zcw {env : Env} : ∀ {names : List (Str × NameKind)} {x : Str} {q : NameKind}, (∀ y ∈ names, y.2 ≠ .cell) -> (q = .cell \/ q = .free) ->
  (names.map fun (n, k) => if (k == NameKind.free && env.scope.kind == .function && env.kindOf n == some .cell) then (n, NameKind.cell) else (n, k)).lookup x = some q -> (x, NameKind.free) ∈ names
 | [], _, _, _, _, h => by simp at h
 | (n, k) :: r, x, q, hn, hq, h => by
  have ih := @zcw env r x q (fun y hy => hn y (List.mem_cons_of_mem _ hy)) hq
  have h' : List.lookup x ((if (k == NameKind.free && env.scope.kind == .function && env.kindOf n == some .cell) = true then (n, NameKind.cell) else (n, k)) :: (r.map fun (n, k) => if (k == NameKind.free && env.scope.kind == .function && env.kindOf n == some .cell) then (n, NameKind.cell) else (n, k))) = some q := h
  cases hx : x == n with
  | true =>
   have e : x = n := by simpa using hx
   subst e
   by_cases hc : (k == NameKind.free && env.scope.kind == .function && env.kindOf x == some .cell) = true
   ·simp only [Bool.and_eq_true, beq_iff_eq] at hc
    rw [hc.1.1]; exact List.mem_cons_self
   ·rw [if_neg hc] at h'
    simp only [List.lookup_cons, beq_self_eq_true] at h'
    cases h'
    rcases hq with rfl | rfl
    ·exact absurd rfl (hn (x, .cell) List.mem_cons_self)
    ·exact List.mem_cons_self
  | false =>
   refine List.mem_cons_of_mem _ (ih ?_)
   by_cases hc : (k == NameKind.free && env.scope.kind == .function && env.kindOf n == some .cell) = true
   ·rw [if_pos hc] at h'; simp only [List.lookup_cons, hx] at h'; exact h'
   ·rw [if_neg hc] at h'; simp only [List.lookup_cons, hx] at h'; exact h'
section
variable {X : Cx} {pins : List (Addr × Obj)} {σ : St} {H : Hp} {s s' : Shared} {scope : Scope} {N' : List Str} {nt : Nat} {cs : List Nat} {C : Addr} {fp : List Addr} {h' : Heap} {t' : Nat}
theorem zlz (I : Inv X pins σ H s) (L : LcOk X scope N' nt cs) (hf : ∀ b ∈ fp, FpOk X pins H b) (hC : s.heap.objs.size <= C) (k : ∀ b u, s.heap.get? b = some u -> h'.get? b = some u) (hns : h'.Ns C fun _ => none) (fpo : ∀ b ∈ fp, b < s.heap.objs.size) :
  Inv (lcCx X N' scope s H C fp) [] (lcS nt cs σ) H { s with heap := h', toks := t' } := by
 have hfree : H C = none := I.hok.fresh hC
 have csub : ∀ x c, (clos X.env.cells scope.names []).lookup x = some c -> X.env.cells.lookup x = some c := zeg _ _ fun x c h => by simp at h
 have chas : ∀ x, (x, NameKind.free) ∈ scope.names -> ((clos X.env.cells scope.names []).lookup x).isSome = true := fun x hx => by
  refine zek _ _ x hx ?_
  obtain ⟨c, e⟩ := I.ok.has x (L.fr x hx)
  rw [e]; rfl
 have I4 : Inv X pins σ H { s with heap := h', toks := t' } := I.kept k
 refine ⟨⟨I.ok.mod, L.kind, I.ok.glob, I.ok.blt, hC, fun x y c h1 h2 => I.ok.inj x y c (csub x c h1) (csub y c h2), fun x hx => ?_, fun x c hx => (nomatch hx), I.ok.hd, I.ok.frames, .inl rfl, fun b hb => ⟨?_, fun x c e => ?_⟩, I.bs, Nat.le_trans I.ok.bsz I.sz, fun b o e hb => ?_, fun b hb => ?_, I.stack, I.stkFree⟩,
  rfl, I.bare, Un.kept k, ⟨_, hns, fun i x v e1 e2 e3 => ?_⟩, fun x c e => ?_, hfree, fun x c e => I.freeC x c (csub x c e), fun p hp => absurd (show p ∈ ([] : List (Addr × Obj)) from hp) (by simp), I4.hok, ?_⟩
 ·have hx' : (x, NameKind.free) ∈ scope.names := by
   rcases hx with hx | hx
   ·exact zcw (env:=X.env) L.nocell (.inl rfl) hx
   ·exact zcw (env:=X.env) L.nocell (.inr rfl) hx
  exact Option.isSome_iff_exists.mp (chas x hx')
 ·exact Nat.ne_of_lt (Nat.lt_of_lt_of_le (fpo b hb) hC)
 ·exact (hf b hb).2.2.2.2.1 x c (csub x c e)
 ·obtain ⟨f0, f1, f2, f3, _⟩ := hf b hb
  rcases f3 with z | z
  ·exact I.ok.noex b o e z
  ·exact absurd (Nat.lt_of_lt_of_le (Heap.lt_size e) (Nat.le_trans I.ok.bsz z)) (Nat.lt_irrefl _)
 ·obtain ⟨f0, f1, f2, f3, _⟩ := hf b hb
  intro z
  rcases List.mem_cons.mp (I.stkSub b z) with q | q
  ·exact f1 q
  ·exact f2 q
 ·-- a captured name
  have e2' : (lcS nt cs σ)[i]? = some (some v) := e2
  unfold lcS at e2'
  by_cases hi : i < nt
  ·rw [List.getElem?_append_left (by simpa using hi), List.getElem?_replicate] at e2'
   split at e2' <;> cases e2'
  ·rw [List.getElem?_append_right (by simpa using hi), List.length_replicate, List.getElem?_map] at e2'
   cases ej : cs[i - nt]? with
   | none => rw [ej] at e2'; cases e2'
   | some j =>
    rw [ej] at e2'
    have e2'' : (σ[j]?).getD none = some v := Option.some.inj e2'
    have hσ : σ[j]? = some (some v) := by
     cases q : σ[j]? with
     | none => rw [q] at e2''; cases e2''
     | some z => rw [q] at e2''; exact congrArg some e2''
    obtain ⟨y, y1, y2, y3, y4, y5⟩ := L.cap _ _ ej
    have hxy : x = y := by
     have e1' : N'[i]? = some x := e1
     rw [show nt + (i - nt) = i by lia, e1'] at y1
     exact Option.some.inj y1
    subst hxy
    obtain ⟨m, hn, hl⟩ := I4.loc
    obtain ⟨u, r, l⟩ := hl j x v y2 hσ y4
    refine ⟨u, r, .inr ⟨zd7 (env:=X.env) y3, ?_⟩⟩
    rcases l with ⟨l, _⟩ | ⟨_, c, hc, hcell⟩
    ·exact absurd l y5
    ·refine ⟨c, ?_, hcell⟩
     obtain ⟨d, hd⟩ := Option.isSome_iff_exists.mp (chas x (PySem.mem_of_lookup y3))
     have := csub x d hd
     rw [hc] at this
     cases this
     exact hd
 ·exact I4.cell x c (csub x c e)
 ·show (lcS nt cs σ).length = N'.length
  unfold lcS
  rw [L.len]; simp
theorem zlr {σ2 : St} {H2 : Hp} (I : Inv X pins σ H s) (hf : ∀ b ∈ fp, FpOk X pins H b) (J : Inv (lcCx X N' scope s H C fp) [] σ2 H2 s') : Inv X pins σ H2 s' :=
 I.call' (ch:=fp) J.os J.base J.hok J.bare fun b hb => by
  obtain ⟨f0, f1, f2, f3, f4, f5⟩ := hf b hb
  exact ⟨f3, f1, f4, f5⟩
end
noncomputable def PIfs (X : Cx) (ifs : List Expr) (t : TT) : Prop :=
 ∀ (pins : List (Addr × Obj)) (s : Shared) (σ : St) (H : Hp) (Q : Bool -> Hp -> Prop), Inv X pins σ H s -> t σ H Q ->
  wpAny (model X.prog X.w) X.A (forIn ifs true fun c r => if r = true then do let ok <- isTrue c X.env (eval c X.env); pure (ForInStep.yield ok) else pure (ForInStep.yield r)) (TP X pins σ Q) X.xe s
noncomputable def zjj : TT := fun _ H Q => Q true H
theorem zfy {X : Cx} : PIfs X [] zjj := fun _ _ _ H _ I h => wpAny_tests_nil ⟨H, I, h⟩
theorem zl4 {X : Cx} {c : Expr} {t : TT} (h : PT X c t) : PIfs X [c] t := fun pins s σ H Q I hq => wpAny_tests_one (h pins s σ H Q I hq)
noncomputable def LCG (nt : Nat) (cs : List Nat) (g : TG) (tt : TT) (te : TE) (σ : St) (Q : VK) (J : It) (H1 : Hp) : Prop := ∀ l, H1 l = none -> ∃ W : Nat -> Nat -> Hp -> Prop, (∃ m, W 0 m (upd H1 l (.lst []))) /\ ∀ i m H2, W i m H2 ->
 (J.stop i H2 /\ Q (.ref l) H2) \/ (J.go i H2 /\ ∃ N : Hp -> Prop, (∀ H', N H' -> ∃ m', m' < m /\ W (i + 1) m' H') /\ ∀ x H3, J.yld i H2 x H3 -> g x (lcS nt cs σ) H3 fun σ2 H4 =>
  (σ2.length = nt + cs.length /\ σ2.drop nt = (lcS nt cs σ).drop nt) /\ tt σ2 H4 fun b H5 => if b = true then te σ2 H5 fun y H6 => ∃ xs, H6 l = some (.lst xs) /\ xs.length < sizeLine /\ N (upd H6 l (.lst (xs ++ [y]))) else N H5)
noncomputable def tLC (nt : Nat) (cs : List Nat) (wi : TI) (g : TG) (tt : TT) (te : TE) : TE := fun σ H Q => wi σ H fun J H1 => LCG nt cs g tt te σ Q J H1
theorem zni {prog : Program} {w : World} {A : Around} {R : Result -> Shared -> Prop} {s : Shared} {elt target iter : Expr} {ifs : List Expr} {scope : Scope} {pos : Pos} {it acc : Value} {env : Env} (I : Nat -> Shared -> Prop)
  (turn : ∀ n s, I n s -> wpAny (model prog w) A (pyNext it) (fun r s₁ => match r with
   | none => R (.ok .next) s₁
   | some v => wpAny (model prog w) A (letOwnedTupleGo target it v) (fun _ s₁' => wpAny (model prog w) A (assign target env v) (fun _ s₂ =>
     wpAny (model prog w) A (forIn ifs true fun c r => if r = true then do let ok <- isTrue c env (eval c env); pure (ForInStep.yield ok) else pure (ForInStep.yield r)) (fun ok s₃ =>
      if ok = true then wpAny (model prog w) A (eval elt env) (fun x s₄ =>
       wpAny (model prog w) A (call (.builtin "list.append") [acc, x]) (fun _ s₅ => ∃ m, m < n /\ I m s₅) (fun _ _ => False) s₄) (fun _ _ => False) s₃
      else ∃ m, m < n /\ I m s₃) (fun _ _ => False) s₂) (fun _ _ => False) s₁') (fun _ _ => False) s₁) (fun _ _ => False) s)
  (n : Nat) (h : I n s) : codeAny (model prog w) A (.compLoop (.ListComp elt [⟨target, iter, ifs, 0⟩] scope pos) 0 it acc env) R s := by
 refine codeAny_loop rfl I (fun n s hI => ?_) n h
 show wpAny _ A ((compTurn (.ListComp elt [⟨target, iter, ifs, 0⟩] scope pos) 0 it acc env).onRaise (fun x => do noteFrame x env; theTreesLotGoes x)) _ _ s
 refine wpAny_noted ?_
 rw [compTurn_list]
 refine wpAny_bind (wpAny_standAt (wpAny_bind (wpAny_mono (turn n s hI) (fun r s₁ h₁ => ?_) fun _ _ h' => h'.elim)))
 cases r with
 | none => exact wpAny_pure h₁
 | some v =>
  refine wpAny_bind (wpAny_mono h₁ (fun _ s₁' h₁' => ?_) fun _ _ h' => h'.elim)
  refine wpAny_bind (wpAny_mono h₁' (fun _ s₂ h₂ => wpAny_bind (wpAny_mono h₂ (fun ok s₃ h₃ => ?_) fun _ _ h' => h'.elim)) fun _ _ h' => h'.elim)
  cases ok with
  | false => exact wpAny_pure ⟨rfl, h₃⟩
  | true =>
   exact wpAny_bind (wpAny_bind (wpAny_mono h₃ (fun x s₄ h₄ => wpAny_bind (wpAny_mono h₄ (fun _ s₅ h₅ => wpAny_pure (wpAny_pure ⟨rfl, h₅⟩)) fun _ _ h' => h'.elim)) fun _ _ h' => h'.elim))
section
variable {X : Cx} {elt target iter : Expr} {ifs : List Expr} {scope : Scope} {pos : Pos} {N' : List Str} {nt : Nat} {cs : List Nat} {wi : TI} {g : TG} {tt : TT} {te : TE}
theorem zmy {use : Option (Value -> Sem Unit)} {QQ : Value -> Shared -> Prop} {p2 : Pos} (hc : X.calm = true) (L : LcOk X scope N' nt cs) (hi : PI X target iter wi)
  (hg : ∀ s H C fp, PG (lcCx X N' scope s H C fp) target g) (ht : ∀ s H C fp, PIfs (lcCx X N' scope s H C fp) ifs tt) (he : ∀ s H C fp, PE (lcCx X N' scope s H C fp) elt te)
  {pins : List (Addr × Obj)} {s : Shared} {σ : St} {H : Hp} {Q : VK} (I : Inv X pins σ H s) (h : tLC nt cs wi g tt te σ H Q)
  (fin : ∀ (l : Addr) (H' : Hp) (s' : Shared) (C : Addr), Inv X pins σ H' s' -> FpOk X pins H' C -> (∃ m, s'.heap.Ns C m) -> Q (.ref l) H' -> compPost (model X.prog X.w) X.A X.xe use QQ (.ref l) C (.ok .next) s')
  (hs : ∀ x, foldedSetIterable iter X.env x = pure x := by intro _; rfl) :
  wpAny (model X.prog X.w) X.A (comprehension (.ListComp elt [⟨target, iter, ifs, 0⟩] scope pos) scope X.env p2 (newList []) false (eval iter X.env) use) QQ X.xe s := by
 have hcl : closureFor scope X.env = pure (clos X.env.cells scope.names []) := zi5 fun x hx => by
  obtain ⟨c, e⟩ := I.ok.has x (L.fr x hx)
  rw [e]; rfl
 refine wpAny_comprehension_free (env:=X.env) rfl hs hcl L.kind L.loc (thn (hi pins s σ H _ I h) fun v s1 h1 => thn h1 fun itv s2 h2 => ?_)
 obtain ⟨it, fp, tn, J, H1, e, I2, T, st2, f2, R⟩ := h2
 subst e
 refine wpAny_newObj_type ?_
 have hv : Vals [] ([] : List Value) := .nil
 have I3 := I2.lnew (t':=s2.toks) hv (Nat.zero_le _)
 have hfr : H1 s2.heap.objs.size = none := I2.fresh
 have ne3 : ∀ b ∈ fp, b ≠ s2.heap.objs.size := fun b hb z => by
  obtain ⟨o, e, _⟩ := T.obj _ _ st2 b hb
  have := Heap.lt_size e
  rw [z] at this
  exact Nat.lt_irrefl _ this
 have f3 : ∀ b ∈ fp, FpOk X pins (upd H1 s2.heap.objs.size (.lst [])) b := fun b hb => ⟨by rw [zam (ne3 b hb)]; exact (f2 b hb).1, (f2 b hb).2⟩
 obtain ⟨W, ⟨m0, w0⟩, turn⟩ := R _ hfr
 refine wpAny_newFunctionEnv L.nocell (by intro y hy; simp at hy) (fun h4 hns hsb => ?_) L.kind
 dsimp only at hns hsb ⊢
 generalize hH3 : s2.heap.push { cls := .type "list", dict := none, data := .seq ([] : List Value).toArray } = h3 at hns hsb I3 ⊢
 have hsz3 : h3.objs.size = s2.heap.objs.size + 1 := by rw [<- hH3, Heap.size_push]
 have up4 : ∀ b u, h3.get? b = some u -> h4.get? b = some u := fun b u e => hsb.extBut b u (Nat.ne_of_lt (Heap.lt_size e)) (Heap.get?_push_of_some _ e)
 have fpo : ∀ b ∈ fp, b < h3.objs.size := fun b hb => by
  obtain ⟨o, e, _⟩ := T.obj _ _ st2 b hb
  exact Nat.lt_of_lt_of_le (Heap.lt_size e) (by rw [hsz3]; exact Nat.le_succ _)
 have up3 : ∀ b u, s2.heap.get? b = some u -> h3.get? b = some u := fun b u e => hH3 ▸ Heap.get?_push_of_some _ e
 have J4 : Inv (lcCx X N' scope { s2 with heap := h3 } (upd H1 s2.heap.objs.size (.lst [])) h3.objs.size fp) [] (lcS nt cs σ) (upd H1 s2.heap.objs.size (.lst [])) { s2 with heap := h4, toks := s2.toks + ([] : List (Str × Value)).length } :=
  zlz (t':=s2.toks + ([] : List (Str × Value)).length) I3 L f3 (Nat.le_refl _) up4 (by simpa using hns) fpo
 have st4 : tn 0 h4 := T.keep _ _ _ st2 fun b hb o e => up4 b o (up3 b o e)
 generalize hs3 : ({ s2 with heap := h3 } : Shared) = s3 at I3 J4
 generalize hX' : lcCx X N' scope s3 (upd H1 s2.heap.objs.size (.lst [])) h3.objs.size fp = X' at J4
 have hg' : PG X' target g := hX' ▸ hg _ _ _ _
 have ht' : PIfs X' ifs tt := hX' ▸ ht _ _ _ _
 have he' : PE X' elt te := hX' ▸ he _ _ _ _
 have stat : ∀ {H' : Hp}, (∀ b ∈ fp, H' b = none) -> ∀ b ∈ fp, FpOk X' [] H' b := fun hn b hb => by
  subst hX'
  refine ⟨hn b hb, Nat.ne_of_lt (fpo b hb), J4.ok.exfs b hb, .inl hb, (J4.ok.exf b hb).2, fun p hp => absurd (show p ∈ ([] : List (Addr × Obj)) from hp) (by simp)⟩
 have loop : codeAny (model X.prog X.w) X.A (.compLoop (.ListComp elt [⟨target, iter, ifs, 0⟩] scope pos) 0 (.ref it) (.ref s2.heap.objs.size) (compEnvC scope (clos X.env.cells scope.names []) h3.objs.size X.env))
   (compPost (model X.prog X.w) X.A X.xe use QQ (.ref s2.heap.objs.size) h3.objs.size) { s2 with heap := h4, toks := s2.toks + ([] : List (Str × Value)).length } := by
  have eA : X'.A = X.A := by subst hX'; rfl
  have eP : X'.prog = X.prog := by subst hX'; rfl
  have eW : X'.w = X.w := by subst hX'; rfl
  have eK : X'.K = X.K := by subst hX'; rfl
  have eC : X'.calm = true := by subst hX'; exact hc
  have eE : X'.env = compEnvC scope (clos X.env.cells scope.names []) h3.objs.size X.env := by subst hX'; rfl
  have eX : X'.xe = fun _ _ => False := by subst hX'; rfl
  refine zni (fun n s' => ∃ i H', Inv X' [] (lcS nt cs σ) H' s' /\ tn i s'.heap /\ (∀ b ∈ fp, H' b = none) /\ W i n H') ?_ m0 ⟨0, _, J4, st4, fun b hb => (f3 b hb).1, w0⟩
  rintro n s5 ⟨i, H5, J5, st5, fr5, w5⟩
  rcases turn i n H5 w5 with ⟨stop, qn⟩ | ⟨go, N, hN, step⟩
  ·have d := T.done X' eP eW eK eC i [] s5 (lcS nt cs σ) H5 (fun _ _ => False) J5 (stat fr5) st5 stop
   rw [eA] at d
   refine thn d fun r s6 hz9 => ?_
   obtain ⟨hr, J6⟩ := hz9
   subst hr
   have I6 : Inv X pins σ H5 s6 := by subst hX'; subst hs3; exact zlr I3 f3 J6
   refine fin _ H5 s6 h3.objs.size I6 ?_ ?_ qn
   ·have hn : H5 h3.objs.size = none := by subst hX'; exact J6.free
    subst hs3
    exact I3.fpOk (Nat.le_refl _) hn
   ·obtain ⟨m, hm, _⟩ := J6.loc
    subst hX'
    exact ⟨m, hm⟩
  ·have d := T.item X' eP eW eK eC i [] s5 (lcS nt cs σ) H5 (fun _ _ => False) J5 (stat fr5) st5 go
   rw [eA] at d
   refine thn d fun r s6 hz9 => ?_
   obtain ⟨u, hr, h6⟩ := hz9
   subst hr
   refine thn h6 fun _ s7 hz9 => ?_
   obtain ⟨x, H7, J7, r7, y7, st7, fr7⟩ := hz9
   have J7' := J7.pinned (stat fr7) (T.obj _ _ st7)
   have a := hg' _ s7 (lcS nt cs σ) H7 x u _ J7' r7 (step x H7 y7)
   rw [eA, eP, eW, eE, eX] at a
   refine thn a fun _ s8 ⟨σ8, H8, J8, ⟨e8, d8⟩, q8⟩ => ?_
   have b := ht' _ s8 σ8 H8 _ J8 q8
   rw [eA, eP, eW, eE, eX] at b
   have again : ∀ {s9 : Shared} {H9 : Hp}, Inv X' ([] ++ zhm fp s7.heap) σ8 H9 s9 -> N H9 -> ∃ m, m < n /\ ∃ i H', Inv X' [] (lcS nt cs σ) H' s9 /\ tn i s9.heap /\ (∀ b ∈ fp, H' b = none) /\ W i m H' := fun {s9 H9} J9 n9 => by
    obtain ⟨m', hm, w9⟩ := hN H9 n9
    refine ⟨m', hm, i + 1, H9, ?_, T.keep _ _ _ st7 fun b hb o e => (J9.pin (b, o) (List.mem_append_right _ (List.mem_append_right _ (zcz hb e)))).1, fun b hb => ?_, w9⟩
    ·refine J9.unpinned.weak ?_ fun j v ej => ?_
     ·rw [e8]; unfold lcS; simp
     ·by_cases hj : j < nt
      ·unfold lcS at ej
       rw [List.getElem?_append_left (by simpa using hj), List.getElem?_replicate] at ej
       split at ej <;> cases ej
      ·have z := congrArg (fun l : St => l[j - nt]?) d8
       simp only [List.getElem?_drop] at z
       rw [show nt + (j - nt) = j by omega] at z
       rw [z]; exact ej
    ·obtain ⟨o, e, _⟩ := T.obj _ _ st7 b hb
     exact (J9.pin (b, o) (List.mem_append_right _ (List.mem_append_right _ (zcz hb e)))).2.1
   refine thn b fun ok s9 hz9 => ?_
   obtain ⟨H9, J9, q9⟩ := hz9
   cases ok with
   | false =>
    rw [if_neg Bool.false_ne_true] at q9 ⊢
    exact again J9 q9
   | true =>
    rw [if_pos rfl] at q9 ⊢
    have c := he' _ s9 σ8 H9 _ J9 q9
    rw [eA, eP, eW, eE, eX] at c
    refine thn c fun y sA hz9 => ?_
    obtain ⟨vy, HA, JA, ry, xs, hl, hz, nA⟩ := hz9
    have ap := zde (X:=X') _ sA σ8 HA (.ref s2.heap.objs.size) [vy] (.ref s2.heap.objs.size) [y] (fun _ H' => N H') JA rfl (.cons ry .nil) ⟨_, xs, vy, rfl, rfl, hl, hz, nA⟩
    rw [eA, eP, eW, eX] at ap
    refine thn ap fun _ sB hz9 => ?_
    obtain ⟨_, HB, JB, _, nB⟩ := hz9
    exact again JB nB
 exact codeAny_compStart_list loop (T.self X.A 0 _ _ _ st4 loop)
theorem zlo (hc : X.calm = true) (L : LcOk X scope N' nt cs) (hi : PI X target iter wi)
  (hg : ∀ s H C fp, PG (lcCx X N' scope s H C fp) target g) (ht : ∀ s H C fp, PIfs (lcCx X N' scope s H C fp) ifs tt) (he : ∀ s H C fp, PE (lcCx X N' scope s H C fp) elt te)
  (hs : ∀ x, foldedSetIterable iter X.env x = pure x := by intro _; rfl) : PE X (.ListComp elt [⟨target, iter, ifs, 0⟩] scope pos) (tLC nt cs wi g tt te) := by
 intro pins s σ H Q I h
 rw [eval_ListComp]
 refine zmy (use:=none) hc L hi hg ht he I h (fun l H' s' C I' f ⟨m, hm⟩ q => ⟨m, hm, fun h' hs' => ?_⟩) hs
 obtain ⟨f0, f1, f2, f3, f4, f5⟩ := f
 exact ⟨.ref l, H', I'.turned (t':=s'.toks) (fun b o hb e => hs'.extBut b o hb e) f0 f1 f3 f4 f5, rfl, q⟩
end
end L2
namespace L2
open PySem PySem.Spec PyProof.Rows
section
variable {X : Cx} {a b : Expr} {ta tb : TE} {pos : Pos}
theorem zcj : zb2 X (.builtin "isinstance") (fun xs H Q => ∃ x, xs = [.str x, .ty "str"] /\ Q (.bl true) H) := by
 intro pins s σ H xs us Q I r h
 obtain ⟨x, rfl, q⟩ := h
 obtain ⟨u, v, rfl, ⟨t, rfl⟩, rfl⟩ := zhz r
 exact IsiPair.str_str ⟨.bl true, H, I, rfl, q⟩
theorem zeb : zb2 X (.builtin "isinstance") (fun xs H Q => ∃ x, xs = [.int x, .ty "int"] /\ Q (.bl true) H) := by
 intro pins s σ H xs us Q I r h
 obtain ⟨x, rfl, q⟩ := h
 obtain ⟨u, v, rfl, ⟨t, rfl⟩, rfl⟩ := zhz r
 exact IsiPair.int_int ⟨.bl true, H, I, rfl, q⟩
theorem zdw : zb2 X (.builtin "isinstance") (fun xs H Q => ∃ x, xs = [.int x, .ty "bool"] /\ Q (.bl false) H) := by
 intro pins s σ H xs us Q I r h
 obtain ⟨x, rfl, q⟩ := h
 obtain ⟨u, v, rfl, ⟨t, rfl⟩, rfl⟩ := zhz r
 exact IsiPair.int_bool ⟨.bl false, H, I.tok _, rfl, q⟩
theorem zda : zb2 X (.builtin "isinstance") (fun xs H Q => ∃ p ys, xs = [.ref p, .ty "list"] /\ SqL X.K H p ys /\ Q (.bl true) H) := by
 intro pins s σ H xs us Q I r h
 obtain ⟨p, ys, rfl, hq, q⟩ := h
 obtain ⟨u, v, rfl, rfl, rfl⟩ := zhz r
 obtain ⟨its, _, pl, _⟩ := I.list hq
 obtain ⟨o, n, e, c, hd, _⟩ := pl
 exact IsiPair.list_list e c ⟨.bl true, H, I, rfl, q⟩
end
end L2
namespace L2
open PySem PySem.Spec PyProof.Rows
theorem SqL.same {K : PySem.W.Frag} {H H' : Hp} {a : Addr} {xs : List V} (e : Same H H') (h : SqL K H a xs) : SqL K H' a xs := e.seq h
theorem SqT.same {K : PySem.W.Frag} {H H' : Hp} {a : Addr} {xs : List V} (e : Same H H') (h : SqT K H a xs) : SqT K H' a xs := by
 rcases h with (h | ⟨o, h⟩) | h
 ·exact .inl (.inl (e _ _ h))
 ·exact .inl (.inr ⟨o, e _ _ h⟩)
 ·exact .inr h
theorem Same.upd {H : Hp} {l : Addr} {o : HO} (h : H l = none) : Same H (upd H l o) := fun b u e => by rw [zam (zax e h)]; exact e
end L2
namespace L2
open PySem
end L2
namespace L2
open PySem
end L2
namespace L2
open PySem
end L2
namespace L2
open PySem PySem.Spec PyProof.Rows
section
variable {X : Cx} {pins : List (Addr × Obj)} {σ : St} {H : Hp} {s : Shared} {h' : Heap} {t' : Nat} {wr : List Addr}
theorem Inv.turns (I : Inv X pins σ H s) (hf : ∀ b ∈ wr, FpOk X pins H b) (k : ∀ b o, b ∉ wr -> s.heap.get? b = some o -> h'.get? b = some o) : Inv X pins σ H { s with heap := h', toks := t' } := by
 have nw : ∀ b u, H b = some u -> b ∉ wr := fun b u e z => by have := (hf b z).1; rw [e] at this; cases this
 have nL : X.env.locals ∉ wr := fun z => (hf _ z).2.1 rfl
 refine I.step (g':=s.gens) (d':=s.drawn) (ch:=wr) (fun b hb => ?_) (fun b o _ _ hc e _ => k b o hc e) (fun b o _ _ hc e _ => ⟨o.slots, k b o hc e⟩) (fun _ _ _ _ n => n)
  (fun b o hc e => ⟨o, k b o hc e⟩) (fun _ _ e => e) (fun _ _ _ e => e) (fun b ps e => ⟨#[], by rw [e]; simp⟩) (fun m hm => ?_) (fun b u e => ?_) I.bare
 ·obtain ⟨f0, f1, f2, f3, f4, f5⟩ := hf b hb
  exact ⟨f3, f1, f4, f5⟩
 ·obtain ⟨o, es, ep, ho, r⟩ := hm
  exact ⟨o, es, ep, k _ o nL ho, r⟩
 ·refine (I.hok b u e).stay (fun c v hc q => k c v ?_ q) (fun _ q => q) fun _ _ q => q
  rcases hc with z | z
  ·rw [z]; exact nw b u e
  ·exact nw c _ z
theorem Inv.turnsT (I : Inv X pins σ H s) {T0 : Addr} {vs : List V} {vals : Array Value} (hf : ∀ b ∈ wr, FpOk X pins H b) (k : ∀ b o, b ∉ wr -> s.heap.get? b = some o -> h'.get? b = some o) (hT : s.heap.objs.size <= T0) (ht : h'.IsTuple T0 vals) (hv : Vals vs vals.toList)
  (hz : vs.length <= sizeLine) : Inv X pins σ (upd H T0 (.tup vs)) { s with heap := h', toks := t' } := by
 have nw : ∀ b u, H b = some u -> b ∉ wr := fun b u e z => by have := (hf b z).1; rw [e] at this; cases this
 have nL : X.env.locals ∉ wr := fun z => (hf _ z).2.1 rfl
 have fresh : H T0 = none := I.hok.fresh hT
 have ne : ∀ b o, s.heap.get? b = some o -> b ≠ T0 := fun b o e => Nat.ne_of_lt (Nat.lt_of_lt_of_le (Heap.lt_size e) hT)
 refine I.step (g':=s.gens) (d':=s.drawn) (ch:=wr) (fun b hb => ?_) (fun b o _ _ hc e _ => k b o hc e) (fun b o _ _ hc e _ => ⟨o.slots, k b o hc e⟩) (fun b o _ e n => by rw [zam (ne b o e)]; exact n)
  (fun b o hc e => ⟨o, k b o hc e⟩) (fun b xs e => by rw [zam (zax e fresh)]; exact e) (fun b o u e => by rw [zam (zax e fresh)]; exact e) (fun b ps e => ⟨#[], by rw [zam (zax e fresh), e]; simp⟩) (fun m hm => ?_) (fun b u e => ?_) I.bare
 ·obtain ⟨f0, f1, f2, f3, f4, f5⟩ := hf b hb
  exact ⟨f3, f1, f4, f5⟩
 ·obtain ⟨o, es, ep, ho, r⟩ := hm
  exact ⟨o, es, ep, k _ o nL ho, r⟩
 ·by_cases hb : b = T0
  ·subst hb
   rw [zal] at e
   cases e
   have ht2 : h'.IsTuple b vals.toList.toArray := by simpa using ht
   exact ⟨hz, vals.toList, hv, ht2⟩
  ·rw [zam hb] at e
   refine (I.hok b u e).stay (fun c v hc q => k c v ?_ q) (fun c q => by rw [zam (zax q fresh)]; exact q) fun c xs q => by rw [zam (zax q fresh)]; exact q
   rcases hc with z | z
   ·rw [z]; exact nw b u e
   ·exact nw c _ z
end
end L2
namespace L2
open PySem PySem.Spec PyProof.Rows
end L2
namespace L2
open PySem PySem.Spec PyProof.Rows
end L2
namespace L2
open PySem
end L2
namespace L2
open PySem PySem.Spec PyProof.Rows
structure ZipAp (z TI TO i1 i2 : Addr) (fp1 fp2 : List Addr) : Prop where
 TIz : TI ≠ z
 TOz : TO ≠ z
 i1z : i1 ≠ z
 i2z : i2 ≠ z
 TITO : TI ≠ TO
 TIi1 : TI ≠ i1
 TIi2 : TI ≠ i2
 TOi1 : TO ≠ i1
 TOi2 : TO ≠ i2
 i12 : i1 ≠ i2
 m1 : i1 ∈ fp1
 m2 : i2 ∈ fp2
 f1 : ∀ b ∈ fp1, b ≠ z /\ b ≠ TO /\ b ≠ i2
 f2 : ∀ b ∈ fp2, b ≠ z /\ b ≠ TO /\ b ≠ i1
end L2
namespace L2
open PySem PySem.Spec PyProof.Rows
end L2
namespace L2
open PySem
end L2
namespace L2
open PySem PySem.Spec PyProof.Rows
inductive D where
 | non | bl (b : Bool) | int (i : Int) | str (l : List Nat) | lst (xs : List D) | tup (xs : List D) | dct (ks vs : List D) | dctT (ks vs : List D) | ins (C : Addr) (ns : List Str) (vs : List D)
noncomputable instance : Inhabited D := ⟨.non⟩
noncomputable instance : DecidableEq D := Classical.typeDecidableEq D
mutual
noncomputable def D.dep : D -> Nat
 | .lst a => D.deps a + 1
 | .tup a => D.deps a + 1
 | _ => 0
noncomputable def D.deps : List D -> Nat
 | [] => 0
 | a :: x => max a.dep (D.deps x)
end
mutual
noncomputable def D.nb : D -> Bool
 | .bl _ => false
 | .dct _ _ => false
 | .dctT _ _ => false
 | .ins _ _ _ => false
 | .lst a => D.nbs a
 | .tup a => D.nbs a
 | _ => true
noncomputable def D.nbs : List D -> Bool
 | [] => true
 | a :: x => a.nb && D.nbs x
end
section
variable (K : PySem.W.Frag) (H : Hp)
mutual
noncomputable def Rep : D -> V -> Prop
 | .non, v => v = .non
 | .bl b, v => v = .bl b
 | .int i, v => v = .int i
 | .str l, v => v = .str (T l) /\ ∀ c ∈ l, c < 128
 | .lst ds, v => ∃ p xs, v = .ref p /\ SqL K H p xs /\ Reps ds xs
 | .tup ds, v => ∃ p xs, v = .ref p /\ SqT K H p xs /\ Reps ds xs
 | .dct ks vs, v => ∃ p kv, v = .ref p /\ H p = some (.dK kv) /\ Reps ks (kv.map fun q => kV q.1) /\ Reps vs (kv.map fun q => q.2)
 | .dctT ks vs, v => ∃ p kv, v = .ref p /\ H p = some (.dT kv) /\ TKs ks (kv.map fun q => q.1) /\ Reps vs (kv.map fun q => q.2)
 | .ins C ns vs, v => ∃ x dx fs, v = .ref x /\ H x = some (.ins C dx fs) /\ H dx = some (.own x) /\ fs.map (fun q => q.1) = ns /\ Reps vs (fs.map fun q => q.2)
noncomputable def TK : D -> List Key -> Prop
 | .tup es, k => Reps es (k.map kV)
 | _, _ => False
noncomputable def TKs : List D -> List (List Key) -> Prop
 | [], ks => ks = []
 | d :: ds, ks => ∃ k r, ks = k :: r /\ TK d k /\ TKs ds r
noncomputable def Reps : List D -> List V -> Prop
 | [], xs => xs = []
 | d :: ds, xs => ∃ x r, xs = x :: r /\ Rep d x /\ Reps ds r
end
end
section
variable {K : PySem.W.Frag} {H H' : Hp}
mutual
theorem Rep.mono (s : Same H H') : ∀ {d : D} {v : V}, Rep K H d v -> Rep K H' d v
 | .non, _, h => by simpa [Rep] using h
 | .bl _, _, h => by simpa [Rep] using h
 | .int _, _, h => by simpa [Rep] using h
 | .str _, _, h => by simpa [Rep] using h
 | .lst ds, _, h => by
  rw [Rep] at h ⊢
  obtain ⟨p, xs, e, q, r⟩ := h
  exact ⟨p, xs, e, SqL.same s q, Reps.mono s r⟩
 | .tup ds, _, h => by
  rw [Rep] at h ⊢
  obtain ⟨p, xs, e, q, r⟩ := h
  exact ⟨p, xs, e, SqT.same s q, Reps.mono s r⟩
 | .dct ks vs, _, h => by
  rw [Rep] at h ⊢
  obtain ⟨p, kv, e, q, r1, r2⟩ := h
  exact ⟨p, kv, e, s _ _ q, Reps.mono s r1, Reps.mono s r2⟩
 | .dctT ks vs, _, h => by
  rw [Rep] at h ⊢
  obtain ⟨p, kv, e, q, r1, r2⟩ := h
  exact ⟨p, kv, e, s _ _ q, TKs.mono s r1, Reps.mono s r2⟩
 | .ins C ns vs, _, h => by
  rw [Rep] at h ⊢
  obtain ⟨x, dx, fs, e, q1, q2, hn, r⟩ := h
  exact ⟨x, dx, fs, e, s _ _ q1, s _ _ q2, hn, Reps.mono s r⟩
theorem TK.mono (s : Same H H') : ∀ {d : D} {k : List Key}, TK K H d k -> TK K H' d k
 | .tup es, _, h => by rw [TK] at h ⊢; exact Reps.mono s h
 | .non, _, h => by simp [TK] at h
 | .bl _, _, h => by simp [TK] at h
 | .int _, _, h => by simp [TK] at h
 | .str _, _, h => by simp [TK] at h
 | .lst _, _, h => by simp [TK] at h
 | .dct _ _, _, h => by simp [TK] at h
 | .dctT _ _, _, h => by simp [TK] at h
 | .ins _ _ _, _, h => by simp [TK] at h
theorem TKs.mono (s : Same H H') : ∀ {ds : List D} {ks : List (List Key)}, TKs K H ds ks -> TKs K H' ds ks
 | [], _, h => by rw [TKs] at h ⊢; exact h
 | d :: ds, _, h => by
  rw [TKs] at h ⊢
  obtain ⟨k, r, e, a, b⟩ := h
  exact ⟨k, r, e, TK.mono s a, TKs.mono s b⟩
theorem Reps.mono (s : Same H H') : ∀ {ds : List D} {xs : List V}, Reps K H ds xs -> Reps K H' ds xs
 | [], _, h => by simpa [Reps] using h
 | d :: ds, _, h => by
  rw [Reps] at h ⊢
  obtain ⟨x, r, e, a, b⟩ := h
  exact ⟨x, r, e, Rep.mono s a, Reps.mono s b⟩
end
theorem Reps.nil : Reps K H [] [] := by rw [Reps]
theorem Reps.cons {d : D} {ds : List D} {x : V} {xs : List V} (a : Rep K H d x) (b : Reps K H ds xs) : Reps K H (d :: ds) (x :: xs) := by rw [Reps]; exact ⟨x, xs, rfl, a, b⟩
theorem Reps.length : ∀ {ds : List D} {xs : List V}, Reps K H ds xs -> ds.length = xs.length
 | [], _, h => by rw [Reps] at h; subst h; rfl
 | d :: ds, _, h => by
  rw [Reps] at h
  obtain ⟨x, r, rfl, _, b⟩ := h
  simp [b.length]
theorem Reps.get : ∀ {ds : List D} {xs : List V} {i : Nat} {x : V}, Reps K H ds xs -> xs[i]? = some x -> ∃ d, ds[i]? = some d /\ Rep K H d x
 | [], _, _, _, h, e => by rw [Reps] at h; subst h; simp at e
 | d :: ds, _, 0, _, h, e => by
  rw [Reps] at h
  obtain ⟨y, r, rfl, a, _⟩ := h
  cases e
  exact ⟨d, rfl, a⟩
 | d :: ds, _, i + 1, _, h, e => by
  rw [Reps] at h
  obtain ⟨y, r, rfl, _, b⟩ := h
  exact Reps.get (i:=i) b e
theorem Reps.get' : ∀ {ds : List D} {xs : List V} {i : Nat} {d : D}, Reps K H ds xs -> ds[i]? = some d -> ∃ x, xs[i]? = some x /\ Rep K H d x := fun {ds xs i d} h e => by
 have hl := h.length
 have hi := (List.getElem?_eq_some_iff.mp e).1
 obtain ⟨d', e', r⟩ := h.get (i:=i) (x:=xs[i]'(by lia)) (List.getElem?_eq_getElem _)
 rw [e] at e'; cases e'
 exact ⟨_, List.getElem?_eq_getElem _, r⟩
theorem Reps.append : ∀ {ds es : List D} {xs ys : List V}, Reps K H ds xs -> Reps K H es ys -> Reps K H (ds ++ es) (xs ++ ys)
 | [], _, _, _, h, h2 => by rw [Reps] at h; subst h; exact h2
 | d :: ds, _, _, _, h, h2 => by
  rw [Reps] at h
  obtain ⟨y, r, rfl, a, b⟩ := h
  exact Reps.cons a (Reps.append b h2)
theorem Reps.snoc {ds : List D} {xs : List V} {d : D} {x : V} (h : Reps K H ds xs) (a : Rep K H d x) : Reps K H (ds ++ [d]) (xs ++ [x]) := h.append (.cons a .nil)
theorem Reps.drop : ∀ (n : Nat) {ds : List D} {xs : List V}, Reps K H ds xs -> Reps K H (ds.drop n) (xs.drop n)
 | 0, _, _, h => h
 | n + 1, [], _, h => by rw [Reps] at h; subst h; exact Reps.nil
 | n + 1, d :: ds, _, h => by
  rw [Reps] at h
  obtain ⟨y, r, rfl, _, b⟩ := h
  exact Reps.drop n b
theorem Reps.take : ∀ (n : Nat) {ds : List D} {xs : List V}, Reps K H ds xs -> Reps K H (ds.take n) (xs.take n)
 | 0, _, _, h => Reps.nil
 | n + 1, [], _, h => by rw [Reps] at h; subst h; exact Reps.nil
 | n + 1, d :: ds, _, h => by
  rw [Reps] at h
  obtain ⟨y, r, rfl, a, b⟩ := h
  exact Reps.cons a (Reps.take n b)
theorem Rep.lst {ds : List D} {p : Addr} {xs : List V} (q : SqL K H p xs) (r : Reps K H ds xs) : Rep K H (.lst ds) (.ref p) := by rw [Rep]; exact ⟨p, xs, rfl, q, r⟩
theorem Rep.tup {ds : List D} {p : Addr} {xs : List V} (q : SqT K H p xs) (r : Reps K H ds xs) : Rep K H (.tup ds) (.ref p) := by rw [Rep]; exact ⟨p, xs, rfl, q, r⟩
theorem Rep.int {i : Int} : Rep K H (.int i) (.int i) := by rw [Rep]
theorem Rep.bl {b : Bool} : Rep K H (.bl b) (.bl b) := by rw [Rep]
theorem Rep.str {l : List Nat} (h : ∀ c ∈ l, c < 128) : Rep K H (.str l) (.str (T l)) := by rw [Rep]; exact ⟨rfl, h⟩
theorem Rep.of_int {i : Int} {v : V} (h : Rep K H (.int i) v) : v = .int i := by rw [Rep] at h; exact h
theorem Rep.of_bl {b : Bool} {v : V} (h : Rep K H (.bl b) v) : v = .bl b := by rw [Rep] at h; exact h
theorem Rep.of_str {l : List Nat} {v : V} (h : Rep K H (.str l) v) : v = .str (T l) := by rw [Rep] at h; exact h.1
theorem Rep.asc {l : List Nat} {v : V} (h : Rep K H (.str l) v) : ∀ c ∈ l, c < 128 := by rw [Rep] at h; exact h.2
theorem Rep.of_non {v : V} (h : Rep K H .non v) : v = .non := by rw [Rep] at h; exact h
theorem Rep.of_lst {ds : List D} {v : V} (h : Rep K H (.lst ds) v) : ∃ p xs, v = .ref p /\ SqL K H p xs /\ Reps K H ds xs := by rw [Rep] at h; exact h
theorem Rep.of_tup {ds : List D} {v : V} (h : Rep K H (.tup ds) v) : ∃ p xs, v = .ref p /\ SqT K H p xs /\ Reps K H ds xs := by rw [Rep] at h; exact h
theorem Rep.of_ins {C : Addr} {ns : List Str} {vs : List D} {v : V} (h : Rep K H (.ins C ns vs) v) : ∃ x dx fs, v = .ref x /\ H x = some (.ins C dx fs) /\ H dx = some (.own x) /\ fs.map (fun q => q.1) = ns /\ Reps K H vs (fs.map fun q => q.2) := by rw [Rep] at h; exact h
theorem Rep.ins {C x dx : Addr} {fs : List (Str × V)} {vs : List D} (q1 : H x = some (.ins C dx fs)) (q2 : H dx = some (.own x)) (r : Reps K H vs (fs.map fun q => q.2)) : Rep K H (.ins C (fs.map fun q => q.1) vs) (.ref x) := by rw [Rep]; exact ⟨x, dx, fs, rfl, q1, q2, rfl, r⟩
end
structure Ext (G H₀ F H : Hp) : Prop where
 gf : Same G F
 fh : Same F H
 hh : Same H₀ H
 no : ∀ b o, H₀ b = some o -> F b = G b
theorem Ext.refl {G H : Hp} (s : Same G H) : Ext G H G H := ⟨Same.refl _, s, Same.refl _, fun _ _ _ => rfl⟩
theorem Ext.trans {G H F1 H1 F2 H2 : Hp} (a : Ext G H F1 H1) (b : Ext F1 H1 F2 H2) : Ext G H F2 H2 :=
 ⟨a.gf.trans b.gf, b.fh, a.hh.trans b.hh, fun c o e => (b.no c o (a.hh c o e)).trans (a.no c o e)⟩
theorem Ext.newF {G H₀ F H : Hp} (x : Ext G H₀ F H) {p : Addr} {o : HO} (hp : H p = none) : Ext G H₀ (upd F p o) (upd H p o) := by
 have fp : F p = none := x.fh.free hp
 refine ⟨x.gf.trans (Same.upd fp), fun b u e => ?_, x.hh.trans (Same.upd hp), fun b u e => ?_⟩
 ·by_cases hb : b = p
  ·subst hb; rw [zal] at e ⊢; exact e
  ·rw [zam hb] at e ⊢; exact x.fh b u e
 ·have hb : b ≠ p := fun z => by subst z; have := x.hh b u e; rw [hp] at this; cases this
  rw [zam hb]; exact x.no b u e
theorem Ext.newO {G H₀ F H : Hp} (x : Ext G H₀ F H) {p : Addr} {o : HO} (hp : H p = none) : Ext G H₀ F (upd H p o) :=
 ⟨x.gf, x.fh.trans (Same.upd hp), x.hh.trans (Same.upd hp), x.no⟩
theorem Ext.write {G H₀ F H : Hp} (x : Ext G H₀ F H) {p : Addr} {o : HO} (fp : F p = none) (hp : H₀ p = none) : Ext G H₀ F (upd H p o) :=
 ⟨x.gf, fun b u e => by rw [zam (zax e fp)]; exact x.fh b u e, fun b u e => by rw [zam (zax e hp)]; exact x.hh b u e, x.no⟩
theorem Ext.freeze {G H₀ F H : Hp} (x : Ext G H₀ F H) {p : Addr} {o : HO} (fp : F p = none) (hp : H₀ p = none) (e : H p = some o) : Ext G H₀ (upd F p o) H := by
 refine ⟨x.gf.trans (Same.upd fp), fun b u q => ?_, x.hh, fun b u q => ?_⟩
 ·by_cases hb : b = p
  ·subst hb; rw [zal] at q; cases q; exact e
  ·rw [zam hb] at q; exact x.fh b u q
 ·rw [zam (zax q hp)]; exact x.no b u q
inductive Sl where
 | un | d (x : D) | o (p : Addr) (xs : List D) | oo (p : Addr) (qs : List (Addr × List D)) | g (v : V) (as : List Addr) (W : Hp -> Hp -> Prop)
noncomputable def Sl.ads : Sl -> List Addr
 | .un => [] | .d _ => [] | .o p _ => [p] | .oo p qs => p :: qs.map (·.1) | .g _ as _ => as
noncomputable def OwnL (K : PySem.W.Frag) (H₀ F H : Hp) (p : Addr) (xs : List D) : Prop := H₀ p = none /\ F p = none /\ ∃ vs, H p = some (.lst vs) /\ Reps K F xs vs
noncomputable def Stab (as : List Addr) (W : Hp -> Hp -> Prop) : Prop := ∀ F1 H1 F2 H2 : Hp, Same F1 F2 -> (∀ a ∈ as, H2 a = H1 a) -> W F1 H1 -> W F2 H2
noncomputable def SlOk (K : PySem.W.Frag) (H₀ F H : Hp) (ov : Option V) : Sl -> Prop
 | .un => True
 | .d x => ∃ v, ov = some v /\ Rep K F x v
 | .o p xs => ov = some (.ref p) /\ OwnL K H₀ F H p xs
 | .oo p qs => ov = some (.ref p) /\ H₀ p = none /\ F p = none /\ H p = some (.lst (qs.map fun q => V.ref q.1)) /\ ∀ q ∈ qs, OwnL K H₀ F H q.1 q.2
 | .g v as W => ov = some v /\ (∀ a ∈ as, H₀ a = none /\ F a = none /\ ∃ o, H a = some o) /\ W F H /\ Stab as W
structure Sat (K : PySem.W.Frag) (G H₀ L F H : Hp) (σ : St) (ss : List Sl) : Prop where
 ext : Ext G H₀ F H
 fl : Same L F
 len : σ.length = ss.length
 ok : ∀ (i : Nat) s, ss[i]? = some s -> SlOk K H₀ F H (σ.getD i none) s
 nd : ∀ (i : Nat) s, ss[i]? = some s -> s.ads.Nodup
 ne : ∀ (i j : Nat) s s', i ≠ j -> ss[i]? = some s -> ss[j]? = some s' -> ∀ p ∈ s.ads, p ∉ s'.ads
section
variable {K : PySem.W.Frag} {H₀ F H F' H' : Hp}
theorem OwnL.ext2 {p : Addr} {xs : List D} (h : OwnL K H₀ F H p xs) (e : Ext F H F' H') : OwnL K H₀ F' H' p xs := by
 obtain ⟨h0, fp, vs, hp, r⟩ := h
 exact ⟨h0, (e.no p _ hp).trans fp, vs, e.hh p _ hp, r.mono e.gf⟩
theorem SlOk.ext2 {ov : Option V} {s : Sl} (h : SlOk K H₀ F H ov s) (e : Ext F H F' H') : SlOk K H₀ F' H' ov s := by
 cases s with
 | un => trivial
 | d x => obtain ⟨v, ev, r⟩ := h; exact ⟨v, ev, r.mono e.gf⟩
 | o p xs => exact ⟨h.1, h.2.ext2 e⟩
 | oo p qs =>
  obtain ⟨ev, h0, fp, hp, hq⟩ := h
  exact ⟨ev, h0, (e.no p _ hp).trans fp, e.hh p _ hp, fun q hm => (hq q hm).ext2 e⟩
 | g v as W =>
  obtain ⟨ev, ha, hw, st⟩ := h
  refine ⟨ev, fun a hm => ?_, st _ _ _ _ e.gf (fun a hm => ?_) hw, st⟩
  ·obtain ⟨h0, fa, o, ho⟩ := ha a hm
   exact ⟨h0, (e.no a _ ho).trans fa, o, e.hh a _ ho⟩
  ·obtain ⟨h0, fa, o, ho⟩ := ha a hm
   rw [e.hh a _ ho, ho]
theorem OwnL.updNe {p a : Addr} {o : HO} {xs : List D} (h : OwnL K H₀ F H p xs) (hn : p ≠ a) : OwnL K H₀ F (upd H a o) p xs := by
 obtain ⟨h0, fp, vs, hp, r⟩ := h
 exact ⟨h0, fp, vs, by rw [zam hn]; exact hp, r⟩
theorem SlOk.updNe {ov : Option V} {s : Sl} {a : Addr} {o : HO} (h : SlOk K H₀ F H ov s) (hn : a ∉ s.ads) : SlOk K H₀ F (upd H a o) ov s := by
 cases s with
 | un => trivial
 | d x => exact h
 | o p xs => exact ⟨h.1, h.2.updNe fun z => hn (by simp [Sl.ads, z])⟩
 | oo p qs =>
  obtain ⟨ev, h0, fp, hp, hq⟩ := h
  refine ⟨ev, h0, fp, by rw [zam fun z => hn (by simp [Sl.ads, z])]; exact hp, fun q hm => (hq q hm).updNe fun z => hn ?_⟩
  rw [<- z]
  exact List.mem_cons_of_mem _ (List.mem_map_of_mem hm)
 | g v as W =>
  obtain ⟨ev, ha, hw, st⟩ := h
  have hne : ∀ b ∈ as, b ≠ a := fun b hm z => hn (by rw [<- z]; exact hm)
  refine ⟨ev, fun b hm => ?_, st _ _ _ _ (Same.refl _) (fun b hm => zam (hne b hm)) hw, st⟩
  obtain ⟨h0, fa, x, ho⟩ := ha b hm
  exact ⟨h0, fa, x, by rw [zam (hne b hm)]; exact ho⟩
theorem OwnL.frz {p a : Addr} {o : HO} {xs : List D} (h : OwnL K H₀ F H p xs) (fa : F a = none) (hn : p ≠ a) : OwnL K H₀ (upd F a o) H p xs := by
 obtain ⟨h0, fp, vs, hp, r⟩ := h
 exact ⟨h0, by rw [zam hn]; exact fp, vs, hp, r.mono (Same.upd fa)⟩
theorem SlOk.frz {ov : Option V} {s : Sl} {a : Addr} {o : HO} (h : SlOk K H₀ F H ov s) (fa : F a = none) (hn : a ∉ s.ads) : SlOk K H₀ (upd F a o) H ov s := by
 cases s with
 | un => trivial
 | d x => obtain ⟨v, ev, r⟩ := h; exact ⟨v, ev, r.mono (Same.upd fa)⟩
 | o p xs => exact ⟨h.1, h.2.frz fa fun z => hn (by simp [Sl.ads, z])⟩
 | oo p qs =>
  obtain ⟨ev, h0, fp, hp, hq⟩ := h
  refine ⟨ev, h0, by rw [zam fun z => hn (by simp [Sl.ads, z])]; exact fp, hp, fun q hm => (hq q hm).frz fa fun z => hn ?_⟩
  rw [<- z]
  exact List.mem_cons_of_mem _ (List.mem_map_of_mem hm)
 | g v as W =>
  obtain ⟨ev, ha, hw, st⟩ := h
  have hne : ∀ b ∈ as, b ≠ a := fun b hm z => hn (by rw [<- z]; exact hm)
  refine ⟨ev, fun b hm => ?_, st _ _ _ _ (Same.upd fa) (fun _ _ => rfl) hw, st⟩
  obtain ⟨h0, fb, x, ho⟩ := ha b hm
  exact ⟨h0, by rw [zam (hne b hm)]; exact fb, x, ho⟩
theorem SlOk.live {ov : Option V} {s : Sl} (h : SlOk K H₀ F H ov s) {p : Addr} (hp : p ∈ s.ads) : H p ≠ none := by
 cases s with
 | un => simp [Sl.ads] at hp
 | d x => simp [Sl.ads] at hp
 | o q xs =>
  obtain ⟨_, _, _, vs, hq, _⟩ := h
  simp [Sl.ads] at hp; subst hp; rw [hq]; simp
 | oo q qs =>
  obtain ⟨ev, h0, fp, hq, hqs⟩ := h
  rcases List.mem_cons.mp hp with rfl | hp
  ·rw [hq]; simp
  ·obtain ⟨r, hr, rfl⟩ := List.mem_map.mp hp
   obtain ⟨_, _, vs, hv, _⟩ := hqs r hr
   rw [hv]; simp
 | g v as W =>
  obtain ⟨ev, ha, hw, st⟩ := h
  obtain ⟨_, _, x, ho⟩ := ha p hp
  rw [ho]; simp
end
end L2
namespace L2
open PySem PySem.Spec PyProof.Rows
section
variable {K : PySem.W.Frag} {G H₀ L F H F' H' : Hp} {σ : St} {ss : List Sl}
theorem Sat.ext2 (S : Sat K G H₀ L F H σ ss) (e : Ext F H F' H') : Sat K G H₀ L F' H' σ ss :=
 ⟨S.ext.trans e, S.fl.trans e.gf, S.len, fun i s hs => (S.ok i s hs).ext2 e, S.nd, S.ne⟩
theorem Sat.get (S : Sat K G H₀ L F H σ ss) {i : Nat} {s : Sl} (hs : ss[i]? = some s) (hn : s ≠ .un) : ∃ v, σ[i]? = some (some v) /\ SlOk K H₀ F H (some v) s := by
 have hi : i < σ.length := by rw [S.len]; exact (List.getElem?_eq_some_iff.mp hs).1
 have := S.ok i s hs
 rw [List.getD_eq_getElem?_getD, List.getElem?_eq_getElem hi] at this
 simp only [Option.getD_some] at this
 cases hv : σ[i] with
 | none =>
  rw [hv] at this
  cases s with
  | un => exact absurd rfl hn
  | d x => obtain ⟨v, ev, _⟩ := this; cases ev
  | o p xs => obtain ⟨ev, _⟩ := this; cases ev
  | oo p qs => obtain ⟨ev, _⟩ := this; cases ev
  | g v as W => obtain ⟨ev, _⟩ := this; cases ev
 | some v =>
  rw [hv] at this
  exact ⟨v, by rw [List.getElem?_eq_getElem hi, hv], this⟩
theorem Sat.getD (S : Sat K G H₀ L F H σ ss) {i : Nat} {x : D} (hs : ss[i]? = some (.d x)) : ∃ v, σ[i]? = some (some v) /\ Rep K F x v := by
 obtain ⟨v, e, w, ew, r⟩ := S.get hs (by intro z; cases z)
 cases ew
 exact ⟨v, e, r⟩
theorem Sat.getO (S : Sat K G H₀ L F H σ ss) {i : Nat} {p : Addr} {xs : List D} (hs : ss[i]? = some (.o p xs)) : σ[i]? = some (some (.ref p)) /\ OwnL K H₀ F H p xs := by
 obtain ⟨v, e, ew, r⟩ := S.get hs (by intro z; cases z)
 cases ew
 exact ⟨e, r⟩
theorem zc8 {σ : St} {i : Nat} {v : Option V} (h : i < σ.length) : (σ.set i v).getD i none = v := by
 rw [List.getD_eq_getElem?_getD, List.getElem?_set_self h]; rfl
theorem zew {σ : St} {i j : Nat} {v : Option V} (h : i ≠ j) : (σ.set i v).getD j none = σ.getD j none := by
 rw [List.getD_eq_getElem?_getD, List.getElem?_set_ne h, List.getD_eq_getElem?_getD]
theorem zcr {i j : Nat} {s t : Sl} (h : (ss.set i s)[j]? = some t) : (i = j /\ t = s /\ i < ss.length) \/ (i ≠ j /\ ss[j]? = some t) := by
 by_cases hj : i = j
 ·subst hj
  have hi := (List.getElem?_eq_some_iff.mp h).1
  rw [List.length_set] at hi
  rw [List.getElem?_set_self hi] at h
  exact .inl ⟨rfl, (Option.some.inj h).symm, hi⟩
 ·rw [List.getElem?_set_ne hj] at h; exact .inr ⟨hj, h⟩
theorem Sat.put {σ' : St} (S : Sat K G H₀ L F H σ ss) {i : Nat} {s : Sl} (ex : Ext G H₀ F' H') (fl : Same L F') (hl : σ'.length = σ.length) (hσ : ∀ j, j ≠ i -> σ'.getD j none = σ.getD j none) (hi : i < ss.length -> SlOk K H₀ F' H' (σ'.getD i none) s)
  (nd : s.ads.Nodup) (dj : ∀ (j : Nat) s', j ≠ i -> ss[j]? = some s' -> ∀ p ∈ s.ads, p ∉ s'.ads) (st : ∀ (j : Nat) s', j ≠ i -> ss[j]? = some s' -> SlOk K H₀ F' H' (σ.getD j none) s') : Sat K G H₀ L F' H' σ' (ss.set i s) := by
 refine ⟨ex, fl, by rw [List.length_set, hl, S.len], fun j t ht => ?_, fun j t ht => ?_, fun j k t u hjk ht hu => ?_⟩
 ·rcases zcr ht with ⟨rfl, rfl, hlt⟩ | ⟨hj, ht⟩
  ·exact hi hlt
  ·rw [hσ j (Ne.symm hj)]; exact st j t (Ne.symm hj) ht
 ·rcases zcr ht with ⟨rfl, rfl, _⟩ | ⟨hj, ht⟩
  ·exact nd
  ·exact S.nd j t ht
 ·rcases zcr ht with ⟨rfl, rfl, _⟩ | ⟨hj, ht'⟩
  ·rcases zcr hu with ⟨rfl, rfl, _⟩ | ⟨hk, hu'⟩
   ·exact absurd rfl hjk
   ·exact dj k u (Ne.symm hk) hu'
  ·rcases zcr hu with ⟨rfl, rfl, _⟩ | ⟨hk, hu'⟩
   ·exact fun p hp hp' => dj j t (Ne.symm hj) ht' p hp' hp
   ·exact S.ne j k t u hjk ht' hu'
theorem Sat.setD (S : Sat K G H₀ L F H σ ss) {i : Nat} {x : D} {v : V} (r : Rep K F x v) : Sat K G H₀ L F H (σ.set i (some v)) (ss.set i (.d x)) :=
 S.put S.ext S.fl (by simp) (fun j hj => zew (Ne.symm hj)) (fun hi => by rw [zc8 (by rw [S.len]; exact hi)]; exact ⟨v, rfl, r⟩) (by simp [Sl.ads]) (fun _ _ _ _ p hp => by simp [Sl.ads] at hp) fun j s' _ h => S.ok j s' h
theorem Sat.setO (S : Sat K G H₀ L F H σ ss) {i : Nat} {xs : List D} {p : Addr} (r : OwnL K H₀ F H p xs) (hne : ∀ (j : Nat) s', j ≠ i -> ss[j]? = some s' -> p ∉ s'.ads) : Sat K G H₀ L F H (σ.set i (some (.ref p))) (ss.set i (.o p xs)) :=
 S.put S.ext S.fl (by simp) (fun j hj => zew (Ne.symm hj)) (fun hi => by rw [zc8 (by rw [S.len]; exact hi)]; exact ⟨rfl, r⟩) (by simp [Sl.ads]) (fun j s' hj h q hq => by simp [Sl.ads] at hq; subst hq; exact hne j s' hj h) fun j s' _ h => S.ok j s' h
theorem Sat.write (S : Sat K G H₀ L F H σ ss) {i : Nat} {xs ys : List D} {p : Addr} {vs : List V} (hs : ss[i]? = some (.o p xs)) (r : Reps K F ys vs) : Sat K G H₀ L F (upd H p (.lst vs)) σ (ss.set i (.o p ys)) := by
 obtain ⟨e, h0, fp, ws, hp, _⟩ := S.getO hs
 have hget : σ.getD i none = some (.ref p) := by rw [List.getD_eq_getElem?_getD, e]; rfl
 refine S.put (S.ext.write fp h0) S.fl rfl (fun _ _ => rfl) (fun _ => by rw [hget]; exact ⟨rfl, h0, fp, vs, zal, r⟩) (by simp [Sl.ads]) (fun j s' hj h q hq => ?_) fun j s' hj h => (S.ok j s' h).updNe (S.ne i j _ s' (Ne.symm hj) hs h p (by simp [Sl.ads]))
 simp [Sl.ads] at hq; subst hq
 exact S.ne i j _ s' (Ne.symm hj) hs h q (by simp [Sl.ads])
theorem Sat.freeze (S : Sat K G H₀ L F H σ ss) {i : Nat} {p : Addr} {xs : List D} (hs : ss[i]? = some (.o p xs)) : ∃ F', Sat K G H₀ L F' H σ (ss.set i (.d (.lst xs))) := by
 obtain ⟨e, h0, fp, vs, hp, r⟩ := S.getO hs
 have hget : σ.getD i none = some (.ref p) := by rw [List.getD_eq_getElem?_getD, e]; rfl
 exact ⟨upd F p (.lst vs), S.put (S.ext.freeze fp h0 hp) (S.fl.trans (Same.upd fp)) rfl (fun _ _ => rfl) (fun _ => by rw [hget]; exact ⟨_, rfl, Rep.lst (SqL.of zal) (r.mono (Same.upd fp))⟩) (by simp [Sl.ads]) (fun _ _ _ _ q hq => by simp [Sl.ads] at hq)
  fun j s' hj h => (S.ok j s' h).frz fp (S.ne i j _ s' (Ne.symm hj) hs h p (by simp [Sl.ads]))⟩
theorem Sat.raise (S : Sat K G H₀ L F H σ ss) : Sat K G H₀ F F H σ ss := ⟨S.ext, Same.refl _, S.len, S.ok, S.nd, S.ne⟩
theorem Sat.lower {L' : Hp} (S : Sat K G H₀ L' F H σ ss) (h : Same L L') : Sat K G H₀ L F H σ ss := ⟨S.ext, h.trans S.fl, S.len, S.ok, S.nd, S.ne⟩
end
section
variable (K : PySem.W.Frag) (G H₀ L : Hp) (ss : List Sl)
noncomputable def Ev (t : TE) (d : D) : Prop := ∀ F H σ Q, Sat K G H₀ L F H σ ss -> (∀ v F' H', Ext F H F' H' -> Rep K F' d v -> Q v H') -> t σ H Q
noncomputable def EvO (t : TE) (ds : List D) : Prop := ∀ F H σ Q, Sat K G H₀ L F H σ ss -> (∀ p vs F' H', Ext F H F' H' -> H p = none -> F' p = none -> H' p = some (.lst vs) -> Reps K F' ds vs -> Q (.ref p) H') -> t σ H Q
noncomputable def EvL (t : TE) (ds : List D) : Prop := ∀ F H σ Q, Sat K G H₀ L F H σ ss -> (∀ p vs F' H', Ext F H F' H' -> SqL K H' p vs -> Reps K F' ds vs -> Q (.ref p) H') -> t σ H Q
noncomputable def EvB (t : TE) (d : D) : Prop := ∀ F H σ Q, Sat K G H₀ L F H σ ss -> (∀ v F' H', Ext F H F' H' -> Rep K H' d v -> Q v H') -> t σ H Q
noncomputable def EvT (t : TT) (b : Bool) : Prop := ∀ F H σ (Q : Bool -> Hp -> Prop), Sat K G H₀ L F H σ ss -> (∀ F' H', Ext F H F' H' -> Q b H') -> t σ H Q
noncomputable def EvA (t : TA) (ds : List D) : Prop := ∀ F H σ (Q : List V -> Hp -> Prop), Sat K G H₀ L F H σ ss -> (∀ vs F' H', Ext F H F' H' -> Reps K H' ds vs -> Q vs H') -> t σ H Q
noncomputable def EvAF (t : TA) (ds : List D) : Prop := ∀ F H σ (Q : List V -> Hp -> Prop), Sat K G H₀ L F H σ ss -> (∀ vs F' H', Ext F H F' H' -> Reps K F' ds vs -> Q vs H') -> t σ H Q
end
section
variable {K : PySem.W.Frag} {G H₀ L : Hp} {ss : List Sl} {t ta tb : TE} {d d1 d2 : D} {ds es : List D}
theorem EvO.ev (h : EvO K G H₀ L ss t ds) : Ev K G H₀ L ss t (.lst ds) := fun F H σ Q S q => h F H σ Q S fun p vs F' H' e hp fp hp' r => q _ _ _ (e.freeze fp hp hp') (Rep.lst (SqL.of zal) (r.mono (Same.upd fp)))
theorem EvO.l (h : EvO K G H₀ L ss t ds) : EvL K G H₀ L ss t ds := fun F H σ Q S q => h F H σ Q S fun p vs F' H' e hp fp hp' r => q _ _ _ _ e (SqL.of hp') r
theorem Ev.l (h : Ev K G H₀ L ss t (.lst ds)) : EvL K G H₀ L ss t ds := fun F H σ Q S q => h F H σ Q S fun v F' H' e r => by
 obtain ⟨p, xs, rfl, sq, rs⟩ := r.of_lst
 exact q _ _ _ _ e (SqL.same e.fh sq) rs
theorem Ev.b (h : Ev K G H₀ L ss t d) : EvB K G H₀ L ss t d := fun F H σ Q S q => h F H σ Q S fun v F' H' e r => q _ _ _ e (r.mono e.fh)
theorem zad {i : Nat} (hs : ss[i]? = some (.d d)) : Ev K G H₀ L ss (tVar i) d := fun F H σ Q S q => by
 obtain ⟨v, e, r⟩ := S.getD hs
 exact ⟨v, e, q _ _ _ (Ext.refl S.ext.fh) r⟩
theorem zj3 {i : Nat} {p : Addr} (hs : ss[i]? = some (.o p ds)) : EvL K G H₀ L ss (tVar i) ds := fun F H σ Q S q => by
 obtain ⟨e, h0, fp, vs, hp, r⟩ := S.getO hs
 exact ⟨.ref p, e, q _ _ _ _ (Ext.refl S.ext.fh) (SqL.of hp) r⟩
theorem za0 {i : Int} : Ev K G H₀ L ss (tC (.int i)) (.int i) := fun F H σ Q S q => q _ _ _ (Ext.refl S.ext.fh) Rep.int
theorem zp4 {b : Bool} : Ev K G H₀ L ss (tC (.bl b)) (.bl b) := fun F H σ Q S q => q _ _ _ (Ext.refl S.ext.fh) Rep.bl
theorem zaq {x : Str} {l : List Nat} (h : x = T l) (ha : ∀ c ∈ l, c < 128) : Ev K G H₀ L ss (tC (.str x)) (.str l) := fun F H σ Q S q => by subst h; exact q _ _ _ (Ext.refl S.ext.fh) (Rep.str ha)
theorem zdd {r : R2} {w : V} (a : EvB K G H₀ L ss ta d1) (b : EvB K G H₀ L ss tb d2) (hr : ∀ H x y (Q : VK), Rep K H d1 x -> Rep K H d2 y -> Q w H -> r x y H Q) (hw : ∀ F H x y, Rep K H d1 x -> Rep K H d2 y -> Rep K F d w) : Ev K G H₀ L ss (tOp r ta tb) d := fun F H σ Q S q =>
 a F H σ _ S fun x F1 H1 e1 r1 => b F1 H1 σ _ (S.ext2 e1) fun y F2 H2 e2 r2 => hr H2 x y Q (r1.mono e2.hh) r2 (q _ _ _ (e1.trans e2) (hw _ _ _ _ (r1.mono e2.hh) r2))
theorem zog {i j : Int} (a : EvB K G H₀ L ss ta (.int i)) (b : EvB K G H₀ L ss tb (.int j)) : Ev K G H₀ L ss (tOp (rI0 fun i j => .int (i + j)) ta tb) (.int (i + j)) :=
 zdd a b (fun H x y Q r1 r2 q => ⟨i, j, r1.of_int, r2.of_int, q⟩) fun _ _ _ _ _ _ => Rep.int
theorem zoy {i j : Int} (a : EvB K G H₀ L ss ta (.int i)) (b : EvB K G H₀ L ss tb (.int j)) : Ev K G H₀ L ss (tOp (rI0 fun i j => .int (i - j)) ta tb) (.int (i - j)) :=
 zdd a b (fun H x y Q r1 r2 q => ⟨i, j, r1.of_int, r2.of_int, q⟩) fun _ _ _ _ _ _ => Rep.int
theorem zj1 {C : Int -> Int -> Prop} {g : Int -> Int -> Int} {i j : Int} (a : EvB K G H₀ L ss ta (.int i)) (b : EvB K G H₀ L ss tb (.int j)) (hC : C i j) : Ev K G H₀ L ss (tOp (rI C fun i j => .int (g i j)) ta tb) (.int (g i j)) :=
 zdd a b (fun H x y Q r1 r2 q => ⟨i, j, r1.of_int, r2.of_int, hC, q⟩) fun _ _ _ _ _ _ => Rep.int
theorem zjs {g : Int -> Int -> Bool} {i j : Int} (a : EvB K G H₀ L ss ta (.int i)) (b : EvB K G H₀ L ss tb (.int j)) : Ev K G H₀ L ss (tOp (rI0 fun i j => .bl (g i j)) ta tb) (.bl (g i j)) :=
 zdd a b (fun H x y Q r1 r2 q => ⟨i, j, r1.of_int, r2.of_int, q⟩) fun _ _ _ _ _ _ => Rep.bl
theorem zil {i j : Int} (a : EvB K G H₀ L ss ta (.int i)) (b : EvB K G H₀ L ss tb (.int j)) : Ev K G H₀ L ss (tOp rEq ta tb) (.bl (decide (i = j))) :=
 zdd (w:=.bl (decide (i = j))) a b (fun H x y Q r1 r2 q => by rw [r1.of_int, r2.of_int]; exact ⟨rfl, by simpa using q⟩) fun _ _ _ _ _ _ => Rep.bl
theorem zmh {i j : Int} (a : EvB K G H₀ L ss ta (.int i)) (b : EvB K G H₀ L ss tb (.int j)) : Ev K G H₀ L ss (tOp rNe ta tb) (.bl (!decide (i = j))) :=
 zdd (w:=.bl (!decide (i = j))) a b (fun H x y Q r1 r2 q => by rw [r1.of_int, r2.of_int]; exact ⟨rfl, by simpa using q⟩) fun _ _ _ _ _ _ => Rep.bl
theorem zc1 {l m : List Nat} (a : EvB K G H₀ L ss ta (.str l)) (b : EvB K G H₀ L ss tb (.str m)) : Ev K G H₀ L ss (tOp rEq ta tb) (.bl (decide (l = m))) :=
 zdd (w:=.bl (decide (l = m))) a b (fun H x y Q r1 r2 q => by rw [r1.of_str, r2.of_str]; exact ⟨rfl, by rw [zl9]; exact q⟩) fun _ _ _ _ _ _ => Rep.bl
theorem zmz {α : Type} {xs : List α} {i : Int} {x : α} (h : atI xs i = some x) : x ∈ xs := by
 unfold atI at h
 cases hx : ixN xs.length i with
 | none => rw [hx] at h; cases h
 | some j => rw [hx] at h; exact List.mem_of_getElem? h
theorem zom {l : List Nat} {i : Int} {c : Nat} (a : EvB K G H₀ L ss ta (.str l)) (b : EvB K G H₀ L ss tb (.int i)) (hz : l.length <= sizeLine) (hc : atI l i = some c) : Ev K G H₀ L ss (tOp rIxS ta tb) (.str [c]) :=
 zdd (w:=.str (T [c])) a b (fun H x y Q r1 r2 q => ⟨_, _, c, r1.of_str, r2.of_int, by rw [zb3]; exact hz, by rw [ze9]; exact hc, q⟩) fun _ _ _ _ r1 r2 => Rep.str fun c' hc' => by
  rw [List.mem_singleton.mp hc']
  exact r1.asc c (zmz hc)
theorem Reps.atI {H : Hp} {ds : List D} {vs : List V} {i : Int} {d : D} (r : Reps K H ds vs) (h : L2.atI ds i = some d) : ∃ v, L2.atI vs i = some v /\ Rep K H d v := by
 unfold L2.atI at h ⊢
 rw [r.length] at h
 cases hx : ixN vs.length i with
 | none => rw [hx] at h; cases h
 | some j => rw [hx] at h; exact r.get' h
theorem zhn {i : Int} (a : EvL K G H₀ L ss ta ds) (b : EvB K G H₀ L ss tb (.int i)) (hc : atI ds i = some d) : Ev K G H₀ L ss (tOp (rIxL K) ta tb) d := fun F H σ Q S q =>
 a F H σ _ S fun p vs F1 H1 e1 sq r1 => b F1 H1 σ _ (S.ext2 e1) fun y F2 H2 e2 r2 => by
  obtain ⟨v, hv, rv⟩ := r1.atI hc
  exact ⟨p, vs, i, v, rfl, r2.of_int, SqL.same e2.hh sq, hv, q _ _ _ (e1.trans e2) (rv.mono e2.gf)⟩
theorem zpg {i : Int} (a : Ev K G H₀ L ss ta (.tup ds)) (b : EvB K G H₀ L ss tb (.int i)) (hc : atI ds i = some d) : Ev K G H₀ L ss (tOp (rIxT K) ta tb) d := fun F H σ Q S q =>
 a F H σ _ S fun x F1 H1 e1 r1 => b F1 H1 σ _ (S.ext2 e1) fun y F2 H2 e2 r2 => by
  obtain ⟨p, vs, rfl, sq, rs⟩ := r1.of_tup
  obtain ⟨v, hv, rv⟩ := rs.atI hc
  exact ⟨p, vs, i, v, rfl, r2.of_int, SqT.same (e1.fh.trans e2.hh) sq, hv, q _ _ _ (e1.trans e2) (rv.mono e2.gf)⟩
theorem zn1 : EvA K G H₀ L ss tNil [] := fun F H σ Q S q => q _ _ _ (Ext.refl S.ext.fh) Reps.nil
theorem zlx {t : TA} (a : EvB K G H₀ L ss ta d) (b : EvA K G H₀ L ss t ds) : EvA K G H₀ L ss (zbn ta t) (d :: ds) := fun F H σ Q S q =>
 a F H σ _ S fun x F1 H1 e1 r1 => b F1 H1 σ _ (S.ext2 e1) fun vs F2 H2 e2 r2 => q _ _ _ (e1.trans e2) (Reps.cons (r1.mono e2.hh) r2)
theorem zak : EvAF K G H₀ L ss tNil [] := fun F H σ Q S q => q _ _ _ (Ext.refl S.ext.fh) Reps.nil
theorem zab {t : TA} (a : Ev K G H₀ L ss ta d) (b : EvAF K G H₀ L ss t ds) : EvAF K G H₀ L ss (zbn ta t) (d :: ds) := fun F H σ Q S q =>
 a F H σ _ S fun x F1 H1 e1 r1 => b F1 H1 σ _ (S.ext2 e1) fun vs F2 H2 e2 r2 => q _ _ _ (e1.trans e2) (Reps.cons (r1.mono e2.gf) r2)
theorem zk6 {t : TA} (a : EvAF K G H₀ L ss t ds) (hz : ds.length <= sizeLine) : Ev K G H₀ L ss (tTup t) (.tup ds) := fun F H σ Q S q =>
 a F H σ _ S fun vs F1 H1 e1 r1 => ⟨by rw [<- r1.length]; exact hz, fun p hp => q _ _ _ (e1.newF hp) (Rep.tup (SqT.of zal) (r1.mono (Same.upd (e1.fh.free hp))))⟩
theorem zb7 {t : TA} (a : EvAF K G H₀ L ss t ds) (hz : ds.length <= sizeLine) : EvO K G H₀ L ss (tLst t) ds := fun F H σ Q S q =>
 a F H σ _ S fun vs F1 H1 e1 r1 => ⟨by rw [<- r1.length]; exact hz, fun p hp => q p vs F1 _ (e1.newO hp) (e1.hh.free hp) (e1.fh.free hp) zal r1⟩
theorem za7 {b : Bool} (a : Ev K G H₀ L ss t (.bl b)) : EvT K G H₀ L ss (zn2 t) b := fun F H σ Q S q => a F H σ _ S fun v F' H' e r => ⟨b, r.of_bl, q _ _ e⟩
theorem zg0 {b : Bool} (a : Ev K G H₀ L ss t (.bl b)) : EvT K G H₀ L ss (tB t) b := fun F H σ Q S q => a F H σ _ S fun v F' H' e r => ⟨b, r.of_bl, q _ _ e⟩
theorem zct {u : TT} {b : Bool} (a : EvT K G H₀ L ss u b) : EvT K G H₀ L ss (tNot u) (!b) := fun F H σ Q S q => a F H σ _ S fun F' H' e => q _ _ e
theorem zmv {u v : TT} {b c : Bool} (a : EvT K G H₀ L ss u b) (h : b = true -> EvT K G H₀ L ss v c) : EvT K G H₀ L ss (tAnd u v) (b && c) := fun F H σ Q S q => a F H σ _ S fun F' H' e => by
 cases b with
 | false => exact iteF (q _ _ e)
 | true => exact iteT (h rfl _ _ _ _ (S.ext2 e) fun F'' H'' e' => q _ _ (e.trans e'))
theorem ze5 {u v : TT} {b c : Bool} (a : EvT K G H₀ L ss u b) (h : b = false -> EvT K G H₀ L ss v c) : EvT K G H₀ L ss (tOr u v) (b || c) := fun F H σ Q S q => a F H σ _ S fun F' H' e => by
 cases b with
 | true => exact iteT (q _ _ e)
 | false => exact iteF (h rfl _ _ _ _ (S.ext2 e) fun F'' H'' e' => q _ _ (e.trans e'))
theorem zgy {b c : Bool} (a : Ev K G H₀ L ss ta (.bl b)) (h : b = true -> Ev K G H₀ L ss tb (.bl c)) : Ev K G H₀ L ss (zol ta tb) (.bl (b && c)) := fun F H σ Q S q => a F H σ _ S fun v F' H' e r => by
 refine ⟨b, r.of_bl, ?_⟩
 cases b with
 | false => exact iteF (q _ _ _ e Rep.bl)
 | true => exact iteT (h rfl _ _ _ _ (S.ext2 e) fun v F'' H'' e' r' => q _ _ _ (e.trans e') r')
theorem zpz {b c : Bool} (a : Ev K G H₀ L ss ta (.bl b)) (h : b = false -> Ev K G H₀ L ss tb (.bl c)) : Ev K G H₀ L ss (tOrV ta tb) (.bl (b || c)) := fun F H σ Q S q => a F H σ _ S fun v F' H' e r => by
 refine ⟨b, r.of_bl, ?_⟩
 cases b with
 | true => exact iteT (q _ _ _ e Rep.bl)
 | false => exact iteF (h rfl _ _ _ _ (S.ext2 e) fun v F'' H'' e' r' => q _ _ _ (e.trans e') r')
theorem zo0 {b : Bool} (a : Ev K G H₀ L ss ta (.bl b)) : Ev K G H₀ L ss (zpj ta) (.bl (!b)) := fun F H σ Q S q => a F H σ _ S fun v F' H' e r => ⟨b, r.of_bl, q _ _ _ e Rep.bl⟩
end
end L2
namespace L2
open PySem PySem.Spec PyProof.Rows
noncomputable def SpD (K : PySem.W.Frag) (pre : List D -> Prop) (res : List D -> D) : Sp := fun vs H Q _ => ∃ G ds, Same G H /\ Reps K G ds vs /\ pre ds /\ ∀ v G' H', Ext G H G' H' -> Rep K G' (res ds) v -> Q v H'
noncomputable def SpO (K : PySem.W.Frag) (pre : List D -> Prop) (res : List D -> List D) : Sp := fun vs H Q _ => ∃ G ds, Same G H /\ Reps K G ds vs /\ pre ds /\ ∀ p ws G' H', Ext G H G' H' -> H p = none -> G' p = none -> H' p = some (.lst ws) -> Reps K G' (res ds) ws -> Q (.ref p) H'
noncomputable def D.flat : D -> Bool
 | .lst _ => false | .tup _ => false | .dct _ _ => false | .dctT _ _ => false | .ins _ _ _ => false | _ => true
section
variable {K : PySem.W.Frag} {G H₀ L : Hp} {ss : List Sl} {t : TA} {ds : List D} {pre : List D -> Prop} {E : XK}
theorem zh0 {res : List D -> D} (a : EvAF K G H₀ L ss t ds) (hp : pre ds) : Ev K G H₀ L ss (zia (SpD K pre res) [] E t) (res ds) := fun F H σ Q S q =>
 a F H σ _ S fun vs F1 H1 e1 r1 => ⟨F1, ds, e1.fh, by rw [List.append_nil]; exact r1, hp, fun v G' H' e2 r => q _ _ _ (e1.trans e2) r⟩
theorem zlq {res : List D -> List D} (a : EvAF K G H₀ L ss t ds) (hp : pre ds) : EvO K G H₀ L ss (zia (SpO K pre res) [] E t) (res ds) := fun F H σ Q S q =>
 a F H σ _ S fun vs F1 H1 e1 r1 => ⟨F1, ds, e1.fh, by rw [List.append_nil]; exact r1, hp, fun p ws G' H' e2 h1 h2 h3 r => q _ _ _ _ (e1.trans e2) (e1.hh.free h1) h2 h3 r⟩
end
section
variable (K : PySem.W.Frag) (G H₀ L : Hp)
noncomputable def Nx (P : St -> Hp -> Prop) (ss : List Sl) : Prop := ∀ F H σ, Sat K G H₀ L F H σ ss -> P σ H
noncomputable def Go (E : Ends) (ss : List Sl) (t : TS) : Prop := ∀ F H σ, Sat K G H₀ L F H σ ss -> t E σ H
noncomputable def Tg (g : TG) (d : D) (ss ss' : List Sl) : Prop := ∀ F H σ v (Q : St -> Hp -> Prop), Sat K G H₀ L F H σ ss -> Rep K F d v -> (∀ σ' , Sat K G H₀ L F H σ' ss' -> Q σ' H) -> g v σ H Q
noncomputable def Tgs (g : TGs) (ds : List D) (ss ss' : List Sl) : Prop := ∀ F H σ vs (Q : St -> Hp -> Prop), Sat K G H₀ L F H σ ss -> Reps K F ds vs -> (∀ σ' , Sat K G H₀ L F H σ' ss' -> Q σ' H) -> g vs σ H Q
noncomputable def At (I : List Sl -> Prop) : St -> Hp -> Prop := fun σ H => ∃ ss F, Sat K G H₀ L F H σ ss /\ I ss
end
noncomputable def RtD (K : PySem.W.Frag) (G H₀ : Hp) (rt : VK) (d : D) : Prop := ∀ v F H, Ext G H₀ F H -> Rep K F d v -> rt v H
noncomputable def RtO (K : PySem.W.Frag) (G H₀ : Hp) (rt : VK) (ds : List D) : Prop := ∀ p vs F H, Ext G H₀ F H -> H₀ p = none -> F p = none -> H p = some (.lst vs) -> Reps K F ds vs -> rt (.ref p) H
section
variable {K : PySem.W.Frag} {G H₀ L : Hp} {ss ss' : List Sl} {E : Ends} {t u : TS} {te : TE} {d : D} {ds : List D} {P : St -> Hp -> Prop}
theorem zay (h : Go K G H₀ L { E with nx := u E } ss t) : Go K G H₀ L E ss (tSeq t u) := h
theorem zck {i : Nat} (a : Ev K G H₀ L ss te d) (h : Nx K G H₀ L E.nx (ss.set i (.d d))) : Go K G H₀ L E ss (tAsg te (zhq i)) := fun F H σ S => a F H σ _ S fun v F' H' e r => h F' H' _ ((S.ext2 e).setD r)
theorem Sat.notin {F H : Hp} {σ : St} {p : Addr} (S : Sat K G H₀ L F H σ ss) (hp : H p = none) (j : Nat) (s : Sl) (h : ss[j]? = some s) : p ∉ s.ads := fun z => (S.ok j s h).live z hp
theorem Sat.newO {F H F' H' : Hp} {σ : St} {p : Addr} {vs : List V} {i : Nat} (S : Sat K G H₀ L F H σ ss) (e : Ext F H F' H') (hp : H p = none) (fp : F' p = none) (hp' : H' p = some (.lst vs)) (r : Reps K F' ds vs) : Sat K G H₀ L F' H' (σ.set i (some (.ref p))) (ss.set i (.o p ds)) :=
 (S.ext2 e).setO ⟨S.ext.hh.free hp, fp, vs, hp', r⟩ fun j s _ h => S.notin hp j s h
theorem zdl {i : Nat} (a : EvO K G H₀ L ss te ds) (h : ∀ p, Nx K G H₀ L E.nx (ss.set i (.o p ds))) : Go K G H₀ L E ss (tAsg te (zhq i)) := fun F H σ S => a F H σ _ S fun p vs F' H' e hp fp hp' r => h p F' H' _ (S.newO e hp fp hp' r)
theorem zou {g : TG} (a : Ev K G H₀ L ss te d) (hg : Tg K G H₀ L g d ss ss') (h : Nx K G H₀ L E.nx ss') : Go K G H₀ L E ss (tAsg te g) := fun F H σ S => a F H σ _ S fun v F' H' e r => hg F' H' σ v _ (S.ext2 e) r fun σ' S' => h F' H' σ' S'
theorem zcu {c : TT} {b : Bool} (a : EvT K G H₀ L ss c b) (h1 : b = true -> Go K G H₀ L E ss t) (h2 : b = false -> Go K G H₀ L E ss u) : Go K G H₀ L E ss (tIfS c t u) := fun F H σ S => a F H σ _ S fun F' H' e => by
 cases b with
 | true => exact iteT (h1 rfl F' H' σ (S.ext2 e))
 | false => exact iteF (h2 rfl F' H' σ (S.ext2 e))
theorem zbl (h : Nx K G H₀ L E.nx ss) : Go K G H₀ L E ss zoc := h
theorem zbu (a : Ev K G H₀ L ss te d) (h : RtD K G H₀ E.rt d) : Go K G H₀ L E ss (tRet te) := fun F H σ S => a F H σ _ S fun v F' H' e r => h v F' H' (S.ext.trans e) r
theorem zhs (a : EvO K G H₀ L ss te ds) (h : RtO K G H₀ E.rt ds) : Go K G H₀ L E ss (tRet te) := fun F H σ S => a F H σ _ S fun p vs F' H' e hp fp hp' r => h p vs F' H' (S.ext.trans e) (S.ext.hh.free hp) fp hp' r
theorem zcf {i : Nat} {p : Addr} (hs : ss[i]? = some (.o p ds)) (h : Nx K G H₀ L P (ss.set i (.d (.lst ds)))) : Nx K G H₀ L P ss := fun F H σ S => by
 obtain ⟨F', S'⟩ := S.freeze hs
 exact h F' H σ S'
theorem zbm (h : Go K G H₀ L E ss t) : Nx K G H₀ L (t E) ss := h
theorem znz {I : List Sl -> Prop} (h : I ss) : Nx K G H₀ L (At K G H₀ L I) ss := fun F H σ S => ⟨ss, F, S, h⟩
theorem zf1 (I : List Sl -> Prop) (h1 : ∀ N : St -> Hp -> Prop, (∀ ss, I ss -> Nx K G H₀ L N ss) -> Go K G H₀ L { E with nx := N } ss t) (h2 : ∀ ss, I ss -> Go K G H₀ L E ss u) : Go K G H₀ L E ss (tSeq t u) := h1 _ h2
theorem zbv {i : Nat} : Tg K G H₀ L (zhq i) d ss (ss.set i (.d d)) := fun F H σ v Q S r q => q _ (S.setD r)
theorem zf0 : Tgs K G H₀ L gNil [] ss ss := fun F H σ vs Q S r q => by
 rw [Reps] at r
 exact ⟨r, q _ S⟩
theorem zb0 {g : TG} {gs : TGs} {ss1 ss2 : List Sl} (a : Tg K G H₀ L g d ss ss1) (b : Tgs K G H₀ L gs ds ss1 ss2) : Tgs K G H₀ L (znl g gs) (d :: ds) ss ss2 := fun F H σ vs Q S r q => by
 rw [Reps] at r
 obtain ⟨x, xs, rfl, r1, r2⟩ := r
 exact ⟨x, xs, rfl, a F H σ x _ S r1 fun σ' S' => b F H σ' xs _ S' r2 q⟩
theorem zim {g : TGs} {n : Nat} (hn : ds.length = n) (a : Tgs K G H₀ L g ds ss ss') : Tg K G H₀ L (gTup K n g) (.tup ds) ss ss' := fun F H σ v Q S r q => by
 obtain ⟨p, xs, rfl, sq, rs⟩ := r.of_tup
 exact ⟨p, xs, rfl, SqT.same S.ext.fh sq, by rw [<- rs.length]; exact hn, a F H σ xs _ S rs q⟩
theorem zez {i : Nat} {p : Addr} {t1 : TE} (hs : ss[i]? = some (.o p ds)) (a : Ev K G H₀ L ss t1 d) (hz : ds.length < sizeLine) (h : Nx K G H₀ L E.nx (ss.set i (.o p (ds ++ [d])))) :
  Go K G H₀ L E ss (znc (tBM K "list" zjq (tVar i) (zbn t1 tNil))) := fun F H σ S => by
 obtain ⟨e, h0, fp, vs, hp, r⟩ := S.getO hs
 refine ⟨.ref p, e, .inl ⟨rfl, _, SqL.of hp⟩, a F H σ _ S fun v F' H' e' r' => ?_⟩
 have S' := S.ext2 e'
 obtain ⟨e2, h02, fp2, vs', hp2, r2⟩ := S'.getO hs
 exact ⟨p, vs', v, rfl, rfl, hp2, by rw [<- r2.length]; exact hz, h F' _ σ (S'.write hs (r2.snoc r'))⟩
theorem zl5 {i : Nat} {p : Addr} (hs : ss[i]? = some (.o p ds)) (h : Nx K G H₀ L E.nx (ss.set i (.o p []))) :
  Go K G H₀ L E ss (znc (tBM0 K "list" zmf (tVar i))) := fun F H σ S => by
 obtain ⟨e, h0, fp, vs, hp, r⟩ := S.getO hs
 exact ⟨.ref p, e, .inl ⟨rfl, _, SqL.of hp⟩, p, vs, rfl, rfl, hp, h F _ σ (S.write hs Reps.nil)⟩
theorem Rep.itl {F H : Hp} {p : Addr} (h : Same F H) (r : Rep K F (.lst ds) (.ref p)) : ∃ vs, SqL K H p vs /\ Reps K F ds vs := by
 obtain ⟨q, xs, e, sq, rs⟩ := r.of_lst
 cases e
 exact ⟨xs, SqL.same h sq, rs⟩
theorem zpd {tl : TE} {g : TG} {tb : TS} {α : Type} (enc : α -> D) (xs : List α) (I : Nat -> List Sl -> Prop) (a : Ev K G H₀ L ss tl (.lst (xs.map enc))) (h0 : I 0 ss)
  (hs : ∀ L' k x ss, Same L L' -> xs[k]? = some x -> I k ss -> ∃ ss', Tg K G H₀ L' g (enc x) ss ss' /\ ∀ N, (∀ ss, I (k + 1) ss -> Nx K G H₀ L' N ss) -> Go K G H₀ L' { E with nx := N, ct := N, bk := E.nx } ss' tb)
  (hd : ∀ ss, I xs.length ss -> Nx K G H₀ L E.nx ss) : Go K G H₀ L E ss (tFor (zjy K tl) g tb) := fun F H σ S =>
 a F H σ _ S fun v F1 H1 e1 r1 => by
  obtain ⟨p, vs, rfl, sq, rs⟩ := r1.of_lst
  refine ⟨p, rfl, ⟨vs, SqL.same e1.fh sq⟩, ?_⟩
  refine ⟨fun i m σ' H' => m = xs.length - i /\ i <= xs.length /\ At K G H₀ F1 (I i) σ' H', ⟨_, rfl, Nat.zero_le _, ss, F1, (S.ext2 e1).raise, h0⟩, ?_⟩
  rintro i m σ' H' ⟨rfl, hi, ss1, F2, S2, h2⟩
  have rp : Rep K F2 (.lst (xs.map enc)) (.ref p) := r1.mono S2.fl
  obtain ⟨ws, sq2, rs2⟩ := rp.itl S2.ext.fh
  have hlen : ws.length = xs.length := by rw [<- rs2.length, List.length_map]
  by_cases hlt : i < xs.length
  ·refine .inr ⟨⟨ws, ws[i]'(by lia), sq2, List.getElem?_eq_getElem _⟩, fun σ'' H'' => At K G H₀ F1 (I (i + 1)) σ'' H'', fun σ'' H'' h => ⟨xs.length - (i + 1), by lia, rfl, hlt, h⟩, fun x H'' y => ?_⟩
   obtain ⟨rfl, y⟩ := y
   have hx := y ws sq2
   obtain ⟨dx, hdx, rx⟩ := rs2.get hx
   rw [List.getElem?_map, List.getElem?_eq_getElem hlt] at hdx
   cases hdx
   obtain ⟨ss', tg, go⟩ := hs F1 i _ ss1 (S.fl.trans e1.gf) (List.getElem?_eq_getElem hlt) h2
   exact tg F2 _ σ' x _ S2 rx fun σ3 S3 => go _ (fun ss h => znz h) F2 _ σ3 S3
  ·have e : i = xs.length := by lia
   subst e
   exact .inl ⟨⟨ws, sq2, by lia⟩, hd ss1 h2 F2 H' σ' (S2.lower (S.fl.trans e1.gf))⟩
theorem zlu {ta : TA} {j : Nat} {tb : TS} {n : Int} (I : Nat -> List Sl -> Prop) (a : EvA K G H₀ L ss ta [.int n]) (hb : -(2 ^ 62) <= n /\ n < 2 ^ 62) (h0 : I 0 ss)
  (hs : ∀ (k : Nat) ss, (k : Int) < n -> I k ss -> ∀ N, (∀ ss, I (k + 1) ss -> Nx K G H₀ L N ss) -> Go K G H₀ L { E with nx := N, ct := N, bk := E.nx } (ss.set j (.d (.int (k : Int)))) tb)
  (hd : ∀ ss, I n.toNat ss -> Nx K G H₀ L E.nx ss) {ti : TI} (hti : ∀ σ H R, (ta σ H fun vs H1 => ∃ m : Int, vs = [.int m] /\ -(2 ^ 62) <= m /\ m < 2 ^ 62 /\ R (Itr 0 m.toNat) H1) -> ti σ H R) : Go K G H₀ L E ss (tFor ti (zhq j) tb) := fun F H σ S => by
 refine hti σ H _ (a F H σ _ S fun vs F1 H1 e1 r1 => ?_)
 rw [Reps] at r1
 obtain ⟨x, r, rfl, rx, r1⟩ := r1
 rw [Reps] at r1
 subst r1
 rw [rx.of_int]
 refine ⟨n, rfl, hb.1, hb.2, fun i m σ' H' => m = n.toNat - i /\ i <= n.toNat /\ At K G H₀ L (I i) σ' H', ⟨_, rfl, Nat.zero_le _, ss, F1, S.ext2 e1, h0⟩, ?_⟩
 rintro i m σ' H' ⟨rfl, hi, ss1, F2, S2, h2⟩
 by_cases hlt : i < n.toNat
 ·refine .inr ⟨hlt, fun σ'' H'' => At K G H₀ L (I (i + 1)) σ'' H'', fun σ'' H'' h => ⟨n.toNat - (i + 1), by lia, rfl, hlt, h⟩, fun x H'' y => ?_⟩
  obtain ⟨rfl, rfl⟩ := y
  refine hs i ss1 (by omega) h2 _ (fun ss h => znz h) F2 _ _ ?_
  have e : (0 : Int) + (i : Int) = (i : Int) := by lia
  rw [e]
  exact S2.setD Rep.int
 ·have e : i = n.toNat := by lia
  subst e
  exact .inl ⟨Nat.le_refl _, hd ss1 h2 F2 H' σ' S2⟩
end
end L2
namespace L2
open PySem PySem.Spec PyProof.Rows
mutual
noncomputable def D.toP : D -> PyData
 | .non => .none
 | .bl b => .bool b
 | .int i => .int i
 | .str l => .str (T l)
 | .lst a => .list (D.toPs a)
 | .tup a => .tuple (D.toPs a)
 | .dct _ _ => .none
 | .dctT _ _ => .none
 | .ins _ _ _ => .none
noncomputable def D.toPs : List D -> List PyData
 | [] => []
 | a :: x => a.toP :: D.toPs x
end
mutual
theorem D.toP_depth : ∀ d : D, d.toP.depth = d.dep
 | .non => rfl
 | .bl _ => rfl
 | .int _ => rfl
 | .str _ => rfl
 | .lst a => by simp [D.toP, PyData.depth, D.dep, D.toPs_depth a]
 | .tup a => by simp [D.toP, PyData.depth, D.dep, D.toPs_depth a]
 | .dct _ _ => rfl
 | .dctT _ _ => rfl
 | .ins _ _ _ => rfl
theorem D.toPs_depth : ∀ a : List D, PyData.depthAll (D.toPs a) = D.deps a
 | [] => rfl
 | d :: a => by simp [D.toPs, PyData.depthAll, D.deps, D.toP_depth d, D.toPs_depth a]
end
mutual
theorem D.eqv : ∀ d e : D, d.nb = true -> e.nb = true -> PyData.eqv d.toP e.toP = decide (d = e)
 | .non, e, _, h2 => by cases e <;> simp [D.toP, PyData.eqv, D.nb] at h2 ⊢
 | .bl _, _, h1, _ => by simp [D.nb] at h1
 | .dct _ _, _, h1, _ => by simp [D.nb] at h1
 | .dctT _ _, _, h1, _ => by simp [D.nb] at h1
 | .ins _ _ _, _, h1, _ => by simp [D.nb] at h1
 | .int i, e, _, h2 => by
  cases e <;> simp [D.toP, PyData.eqv, D.nb] at h2 ⊢
  exact Bool.beq_eq_decide_eq _ _
 | .str l, e, _, h2 => by
  cases e <;> simp [D.toP, PyData.eqv, D.nb] at h2 ⊢
  rename_i m
  rw [Bool.eq_iff_iff]; simp [zo4]
 | .lst a, e, h1, h2 => by
  cases e with
  | lst b =>
   simp only [D.nb] at h1 h2
   simp only [D.toP, PyData.eqv, D.lst.injEq]
   exact D.eqvs a b h1 h2
  | _ => simp [D.toP, PyData.eqv, D.nb] at h2 ⊢
 | .tup a, e, h1, h2 => by
  cases e with
  | tup b =>
   simp only [D.nb] at h1 h2
   simp only [D.toP, PyData.eqv, D.tup.injEq]
   exact D.eqvs a b h1 h2
  | _ => simp [D.toP, PyData.eqv, D.nb] at h2 ⊢
theorem D.eqvs : ∀ a b : List D, D.nbs a = true -> D.nbs b = true -> PyData.eqvAll (D.toPs a) (D.toPs b) = decide (a = b)
 | [], b, _, _ => by cases b <;> simp [D.toPs, PyData.eqvAll]
 | d :: a, b, h1, h2 => by
  cases b with
  | nil => simp [D.toPs, PyData.eqvAll]
  | cons e b =>
   simp only [D.nbs, Bool.and_eq_true] at h1 h2
   simp only [D.toPs, PyData.eqvAll, D.eqv d e h1.1 h2.1, D.eqvs a b h1.2 h2.2, List.cons.injEq]
   by_cases x : d = e <;> by_cases y : a = b <;> simp [x, y]
end
section
variable {X : Cx} {pins : List (Addr × Obj)} {σ : St} {H : Hp} {s : Shared}
theorem zm2 {l : List Nat} (h : ∀ c ∈ l, c < 128) : PyData.strOk (T l) = true := by
 unfold PyData.strOk T
 simp
 intro c hc
 have := h c hc
 lia
mutual
theorem Inv.reads (I : Inv X pins σ H s) : ∀ {d : D} {v : V} {u : Value}, d.nb = true -> Rep X.K H d v -> RelV v u -> (∃ as, Reads s.heap u d.toP as) /\ d.toP.canLay0 = true
 | .non, _, _, _, r, q => by rw [r.of_non] at q; cases q; exact ⟨⟨_, Reads.none⟩, rfl⟩
 | .bl b, _, _, n, _, _ => by simp [D.nb] at n
 | .dct _ _, _, _, n, _, _ => by simp [D.nb] at n
 | .dctT _ _, _, _, n, _, _ => by simp [D.nb] at n
 | .ins _ _ _, _, _, n, _, _ => by simp [D.nb] at n
 | .int i, _, _, _, r, q => by rw [r.of_int] at q; obtain ⟨t, rfl⟩ := q; exact ⟨⟨_, Reads.int i t⟩, rfl⟩
 | .str l, _, _, _, r, q => by
  have ha := r.asc
  rw [r.of_str] at q; obtain ⟨t, rfl⟩ := q
  exact ⟨⟨_, Reads.str _ t⟩, zm2 ha⟩
 | .lst ds, _, _, nn, r, q => by
  obtain ⟨p, xs, rfl, sq, rs⟩ := r.of_lst
  cases q
  obtain ⟨its, rv, ⟨o, n, e, c, _, hd⟩, _⟩ := I.list sq
  obtain ⟨⟨as, ra⟩, hc⟩ := I.readsAll (by simpa [D.nb] using nn) rs rv
  exact ⟨⟨_, Reads.list e c hd (by simpa using ra)⟩, by simpa [D.toP, PyData.canLay0] using hc⟩
 | .tup ds, _, _, nn, r, q => by
  obtain ⟨p, xs, rfl, sq, rs⟩ := r.of_tup
  cases q
  obtain ⟨its, rv, ⟨o, e, c, n, hd⟩, _⟩ := I.tuple sq
  obtain ⟨⟨as, ra⟩, hc⟩ := I.readsAll (by simpa [D.nb] using nn) rs rv
  exact ⟨⟨_, Reads.tuple e c hd (by simpa using ra)⟩, by simpa [D.toP, PyData.canLay0] using hc⟩
theorem Inv.readsAll (I : Inv X pins σ H s) : ∀ {ds : List D} {vs : List V} {us : List Value}, D.nbs ds = true -> Reps X.K H ds vs -> Vals vs us -> (∃ as, ReadsAll s.heap us (D.toPs ds) as) /\ PyData.canLayAll0 (D.toPs ds) = true
 | [], _, _, _, r, q => by
  rw [Reps] at r; subst r
  cases q
  exact ⟨⟨_, ReadsAll.nil⟩, rfl⟩
 | d :: ds, _, _, n, r, q => by
  simp only [D.nbs, Bool.and_eq_true] at n
  rw [Reps] at r
  obtain ⟨x, xs, rfl, r1, r2⟩ := r
  cases q with
  | cons q1 q2 =>
   obtain ⟨⟨as, a⟩, hc⟩ := I.reads n.1 r1 q1
   obtain ⟨⟨bs, b⟩, hc2⟩ := I.readsAll n.2 r2 q2
   exact ⟨⟨_, ReadsAll.cons a b⟩, by simp [D.toPs, PyData.canLayAll0, hc, hc2]⟩
end
end
section
variable {X : Cx}
theorem ziy (d : D) (hd : d.nb = true) : ∀ ds : List D, D.nbs ds = true -> ((D.toPs ds).any fun y => PyData.eqv y d.toP) = decide (d ∈ ds)
 | [], _ => by simp [D.toPs]
 | e :: ds, h => by
  simp only [D.nbs, Bool.and_eq_true] at h
  rw [D.toPs, List.any_cons, ziy d hd ds h.2, D.eqv e d h.1 hd]
  by_cases x : e = d
  ·subst x; simp
  ·have : ¬ d = e := fun z => x z.symm
   simp [x, this]
noncomputable def rInD (K : PySem.W.Frag) (neg : Bool) : R2 := fun x y H Q => ∃ d ds, Rep K H d x /\ (Rep K H (.lst ds) y \/ Rep K H (.tup ds) y) /\ d.nb = true /\ D.nbs ds = true /\ d.dep <= 60 /\ Q (.bl (if neg then !decide (d ∈ ds) else decide (d ∈ ds))) H
theorem zgo (hu : X.A.units + 64 < cLine) : OpR X (compareOp .NotIn) (rInD X.K true) := by
 intro pins s σ H x y v u Q I rx ry h
 obtain ⟨d, ds, r1, r2, n1, n2, hd, q⟩ := h
 obtain ⟨⟨as, a⟩, c1⟩ := I.reads n1 r1 rx
 have h1 := D.toP_depth d
 have fin : EP X pins σ Q (.bool (!(D.toPs ds).any fun y => PyData.eqv y d.toP)) s := by rw [ziy d n1 ds n2]; exact ⟨.bl _, H, I, rfl, q⟩
 rcases r2 with r2 | r2
 ·obtain ⟨⟨bs, b⟩, c2⟩ := I.reads (by simpa [D.nb] using n2) r2 ry
  rw [D.toP] at b c2
  exact SeqAt.notIn_list_reads b a (by simpa [PyData.canLay0] using c2) c1 (by lia) fin
 ·obtain ⟨⟨bs, b⟩, c2⟩ := I.reads (by simpa [D.nb] using n2) r2 ry
  rw [D.toP] at b c2
  exact SeqAt.notIn_tuple_reads b a (by simpa [PyData.canLay0] using c2) c1 (by lia) fin
end
section
variable {K : PySem.W.Frag} {G H₀ L : Hp} {ss : List Sl} {t ta tb : TE} {d d1 d2 : D} {ds es : List D}
theorem zgr (a : EvB K G H₀ L ss ta d) (b : EvB K G H₀ L ss tb (.tup ds)) (n1 : d.nb = true) (n2 : D.nbs ds = true) (hd : d.dep <= 60) : Ev K G H₀ L ss (tOp (rInD K true) ta tb) (.bl (!decide (d ∈ ds))) :=
 zdd (w:=.bl (!decide (d ∈ ds))) a b (fun H x y Q r1 r2 q => ⟨d, ds, r1, .inr r2, n1, n2, hd, q⟩) fun _ _ _ _ _ _ => Rep.bl
end
theorem D.nbs_map {α : Type} {enc : α -> D} (h : ∀ x, (enc x).nb = true) : ∀ xs : List α, D.nbs (xs.map enc) = true
 | [] => rfl
 | x :: xs => by simp [D.nbs, h x, D.nbs_map h xs]
end L2
namespace L2
open PySem PySem.Spec PyProof.Rows
noncomputable def ItOk (K : PySem.W.Frag) (J : It) (F' H' : Hp) (n : Nat) (y : Nat -> D) : Prop := ∀ F2 H2, Same F' F2 -> Same H' H2 -> Same F2 H2 ->
 (∀ i, i < n -> J.go i H2 /\ ∀ x H3, J.yld i H2 x H3 -> ∃ F3, Ext F2 H2 F3 H3 /\ Rep K F3 (y i) x) /\ J.stop n H2
noncomputable def EvI (K : PySem.W.Frag) (G H₀ L : Hp) (ss : List Sl) (wi : TI) (n : Nat) (y : Nat -> D) : Prop := ∀ F H σ R, Sat K G H₀ L F H σ ss -> (∀ F' H' J, Ext F H F' H' -> ItOk K J F' H' n y -> R J H') -> wi σ H R
section
variable {K : PySem.W.Frag} {G H₀ L : Hp} {ss : List Sl}
theorem zis {tl : TE} {ds : List D} (a : EvL K G H₀ L ss tl ds) : EvI K G H₀ L ss (zjy K tl) ds.length fun i => ds.getD i .non := fun F H σ R S q =>
 a F H σ _ S fun p vs F' H' e sq r => ⟨p, rfl, ⟨vs, sq⟩, q F' H' _ e fun F2 H2 f1 h1 fh => by
  have sq2 := SqL.same h1 sq
  have hl := r.length
  refine ⟨fun i hi => ⟨⟨vs, vs[i]'(by lia), sq2, List.getElem?_eq_getElem _⟩, fun x H3 y => ?_⟩, ⟨vs, sq2, by lia⟩⟩
  obtain ⟨rfl, y⟩ := y
  obtain ⟨d, hd, rd⟩ := r.get (y vs sq2)
  refine ⟨F2, Ext.refl fh, ?_⟩
  show Rep K F2 (ds.getD i D.non) x
  rw [List.getD_eq_getElem?_getD, hd]
  exact rd.mono f1⟩
theorem zmw {tl : TE} {l : List Nat} (a : EvB K G H₀ L ss tl (.str l)) : EvI K G H₀ L ss (iStr tl) l.length fun i => .str [l.getD i 0] := fun F H σ R S q =>
 a F H σ _ S fun v F' H' e r => by
  have ha := r.asc
  rw [r.of_str]
  refine ⟨T l, rfl, q F' H' _ e fun F2 H2 f1 h1 fh => ?_⟩
  have ez : (T l).cps.toList = l := ze9 l
  refine ⟨fun i hi => ⟨by show i < _; rw [ez]; exact hi, fun x H3 y => ?_⟩, by show _ <= _; rw [ez]; exact Nat.le_refl _⟩
  obtain ⟨rfl, c, hc, rfl⟩ := y
  rw [ez] at hc
  refine ⟨F2, Ext.refl fh, ?_⟩
  have : l.getD i 0 = c := by rw [List.getD_eq_getElem?_getD, hc]; rfl
  show Rep K F2 (D.str [l.getD i 0]) _
  rw [this]
  exact Rep.str fun c' h' => by rw [List.mem_singleton.mp h']; exact ha c (List.mem_of_getElem? hc)
noncomputable def lcSl (nt : Nat) (cs : List Nat) (ss : List Sl) : List Sl := List.replicate nt .un ++ cs.map fun i => ss.getD i .un
theorem Sat.lc {F H : Hp} {σ : St} {nt : Nat} {cs : List Nat} (S : Sat K G H₀ L F H σ ss) (hc : cs.Nodup) : Sat K G H₀ L F H (lcS nt cs σ) (lcSl nt cs ss) := by
 have cut : ∀ (i : Nat) s, (lcSl nt cs ss)[i]? = some s -> s = .un \/ ∃ j, nt <= i /\ cs[i - nt]? = some j /\ ss[j]? = some s := by
  intro i s h
  unfold lcSl at h
  by_cases hi : i < nt
  ·rw [List.getElem?_append_left (by simpa using hi), List.getElem?_replicate, if_pos hi] at h
   exact .inl (Option.some.inj h).symm
  ·rw [List.getElem?_append_right (by simpa using hi), List.length_replicate, List.getElem?_map] at h
   cases hj : cs[i - nt]? with
   | none => rw [hj] at h; cases h
   | some j =>
    rw [hj] at h
    have h : ss.getD j .un = s := Option.some.inj h
    rw [List.getD_eq_getElem?_getD] at h
    cases hs : ss[j]? with
    | none => rw [hs] at h; exact .inl h.symm
    | some s' => rw [hs] at h; exact .inr ⟨j, by lia, rfl, by rw [hs]; exact congrArg some h⟩
 have val : ∀ (i j : Nat), nt <= i -> cs[i - nt]? = some j -> (lcS nt cs σ).getD i none = σ.getD j none := by
  intro i j hi hj
  unfold lcS
  rw [List.getD_eq_getElem?_getD, List.getElem?_append_right (by simpa using hi), List.length_replicate, List.getElem?_map, hj]
  simp [List.getD_eq_getElem?_getD]
 refine ⟨S.ext, S.fl, by unfold lcS lcSl; simp, fun i s h => ?_, fun i s h => ?_, fun i j s s' hij h h' p hp => ?_⟩
 ·rcases cut i s h with rfl | ⟨j, hi, hj, hs⟩
  ·trivial
  ·rw [val i j hi hj]; exact S.ok j s hs
 ·rcases cut i s h with rfl | ⟨j, hi, hj, hs⟩
  ·simp [Sl.ads]
  ·exact S.nd j s hs
 ·rcases cut i s h with rfl | ⟨k, hi, hk, hs⟩
  ·simp [Sl.ads] at hp
  ·rcases cut j s' h' with rfl | ⟨m, hj, hm, hs'⟩
   ·simp [Sl.ads]
   ·have : k ≠ m := fun z => by
     subst z
     obtain ⟨l1, e1⟩ := List.getElem?_eq_some_iff.mp hk
     obtain ⟨l2, e2⟩ := List.getElem?_eq_some_iff.mp hm
     have := (List.getElem_inj hc).mp (e1.trans e2.symm)
     lia
    exact S.ne k m s s' this hs hs' p hp
noncomputable def GK (nt : Nat) (g : TG) : Prop := ∀ v σ H (Q Q' : St -> Hp -> Prop), (∀ σ' H', Q σ' H' -> σ'.length = σ.length -> σ'.drop nt = σ.drop nt -> Q' σ' H') -> g v σ H Q -> g v σ H Q'
noncomputable def GKs (nt : Nat) (g : TGs) : Prop := ∀ v σ H (Q Q' : St -> Hp -> Prop), (∀ σ' H', Q σ' H' -> σ'.length = σ.length -> σ'.drop nt = σ.drop nt -> Q' σ' H') -> g v σ H Q -> g v σ H Q'
theorem zdm {nt i : Nat} (h : i < nt) : GK nt (zhq i) := fun v σ H Q Q' f q => f _ _ q (by simp) (by rw [List.drop_set_of_lt h])
theorem zkd {nt : Nat} : GKs nt gNil := fun v σ H Q Q' f q => ⟨q.1, f _ _ q.2 rfl rfl⟩
theorem zeh {nt : Nat} {g : TG} {gs : TGs} (a : GK nt g) (b : GKs nt gs) : GKs nt (znl g gs) := fun vs σ H Q Q' f q => by
 obtain ⟨v, r, e, q⟩ := q
 exact ⟨v, r, e, a v σ H _ _ (fun σ' H' q1 l1 d1 => b r σ' H' Q Q' (fun σ'' H'' q2 l2 d2 => f _ _ q2 (l2.trans l1) (d2.trans d1)) q1) q⟩
theorem zmr {nt n : Nat} {gs : TGs} (b : GKs nt gs) : GK nt (gTup K n gs) := fun v σ H Q Q' f q => by
 obtain ⟨a, xs, e, sq, hn, q⟩ := q
 exact ⟨a, xs, e, sq, hn, b xs σ H Q Q' f q⟩
theorem zfo {wi : TI} {g : TG} {tt : TT} {te : TE} {nt : Nat} {cs : List Nat} {n : Nat} {y : Nat -> D} (p : Nat -> Bool) (f : Nat -> D) (a : EvI K G H₀ L ss wi n y) (hk : GK nt g) (hc : cs.Nodup) (hz : n < sizeLine)
  (hs : ∀ i, i < n -> ∃ ss', Tg K G H₀ L g (y i) (lcSl nt cs ss) ss' /\ EvT K G H₀ L ss' tt (p i) /\ (p i = true -> Ev K G H₀ L ss' te (f i))) :
  EvO K G H₀ L ss (tLC nt cs wi g tt te) (((List.range n).filter p).map f) := fun F H σ Q S q =>
 a F H σ _ S fun F1 H1 J e1 it => by
  intro l hl
  have S1 := S.ext2 e1
  refine ⟨fun i m H2 => m = n - i /\ i <= n /\ ∃ F2 vs, Ext F1 H1 F2 H2 /\ F2 l = none /\ H2 l = some (.lst vs) /\ Reps K F2 (((List.range i).filter p).map f) vs /\ vs.length <= i,
   ⟨n, by lia, Nat.zero_le _, F1, [], (Ext.refl e1.fh).newO hl, e1.fh.free hl, zal, Reps.nil, Nat.le_refl _⟩, ?_⟩
  rintro i m H2 ⟨rfl, hi, F2, vs, e2, fl, hl2, rs, hvs⟩
  obtain ⟨it1, it2⟩ := it F2 H2 e2.gf e2.hh e2.fh
  by_cases hlt : i < n
  ·obtain ⟨go, yl⟩ := it1 i hlt
   refine .inr ⟨go, fun H' => ∃ F2 vs, Ext F1 H1 F2 H' /\ F2 l = none /\ H' l = some (.lst vs) /\ Reps K F2 (((List.range (i + 1)).filter p).map f) vs /\ vs.length <= i + 1, fun H' h => ⟨n - (i + 1), by omega, rfl, hlt, h⟩, fun x H3 yx => ?_⟩
   obtain ⟨F3, e3, rx⟩ := yl x H3 yx
   obtain ⟨ss', tg, evt, ev⟩ := hs i hlt
   have S3 := ((S1.ext2 e2).ext2 e3).lc (nt:=nt) hc
   have hl3 : H3 l = some (.lst vs) := e3.hh l _ hl2
   have fl3 : F3 l = none := (e3.no l _ hl2).trans fl
   have base := tg F3 H3 (lcS nt cs σ) x (fun σ2 H4 => H4 = H3 /\ Sat K G H₀ L F3 H3 σ2 ss') S3 rx fun σ' S' => ⟨rfl, S'⟩
   have fin : ∀ σ2, Sat K G H₀ L F3 H3 σ2 ss' -> tt σ2 H3 fun b H5 => if b = true then te σ2 H5 fun y H6 => ∃ xs, H6 l = some (.lst xs) /\ xs.length < sizeLine /\ (∃ F2 vs, Ext F1 H1 F2 (upd H6 l (.lst (xs ++ [y]))) /\ F2 l = none /\ (upd H6 l (.lst (xs ++ [y]))) l = some (.lst vs) /\ Reps K F2 (((List.range (i + 1)).filter p).map f) vs /\ vs.length <= i + 1) else ∃ F2 vs, Ext F1 H1 F2 H5 /\ F2 l = none /\ H5 l = some (.lst vs) /\ Reps K F2 (((List.range (i + 1)).filter p).map f) vs /\ vs.length <= i + 1 := fun σ2 S2 => by
    refine evt F3 H3 σ2 _ S2 fun F5 H5 e5 => ?_
    have S5 := S2.ext2 e5
    have hl5 : H5 l = some (.lst vs) := e5.hh l _ hl3
    have fl5 : F5 l = none := (e5.no l _ hl3).trans fl3
    have gf : Same F2 F5 := e3.gf.trans e5.gf
    cases hp : p i with
    | false =>
     refine iteF ⟨F5, vs, (e2.trans e3).trans e5, fl5, hl5, ?_, by lia⟩
     rw [List.range_succ, List.filter_append, List.filter_cons, hp]
     simpa using rs.mono gf
    | true =>
     refine iteT (ev hp F5 H5 σ2 _ S5 fun v F6 H6 e6 rv => ?_)
     have hl6 : H6 l = some (.lst vs) := e6.hh l _ hl5
     have fl6 : F6 l = none := (e6.no l _ hl5).trans fl5
     refine ⟨vs, hl6, by lia, F6, vs ++ [v], (((e2.trans e3).trans e5).trans e6).write fl6 hl, fl6, zal, ?_, by simp; omega⟩
     rw [List.range_succ, List.filter_append, List.filter_cons, hp, if_pos rfl, List.map_append]
     exact (rs.mono (gf.trans e6.gf)).snoc rv
   refine hk x (lcS nt cs σ) H3 _ _ (fun σ2 H4 h l1 d1 => ?_) base
   obtain ⟨rfl, S2⟩ := h
   exact ⟨⟨by rw [l1]; unfold lcS; simp, d1⟩, fin σ2 S2⟩
  ·have e : i = n := by lia
   subst e
   exact .inl ⟨it2, q l vs F2 H2 (e1.trans e2) (e1.hh.free hl) fl hl2 rs⟩
end
end L2
namespace L2
open PySem PySem.W PyProof.Rows
section
variable (key : Nat -> Int)
noncomputable def kk (p : Array Nat) (i : Nat) : Int := key (p.getD i 0)
variable {key}
end
end L2
namespace L2
open PySem PySem.W PyProof.Rows
section
variable {prog : Program} {w : World} {A : Around} {E : Value -> Shared -> Prop} {s : Shared}
noncomputable def zp3 (h h' : Heap) : Prop := ∀ b o, h.get? b = some o -> h'.get? b = some o
end
end L2
namespace L2
open PySem PySem.W PyProof.Rows
end L2
namespace L2
open PySem PySem.W PyProof.Rows
inductive Ty where | s | i
noncomputable def Ty.ok : Ty -> D -> Bool
 | .s, .str _ => true
 | .i, .int _ => true
 | _, _ => false
section
variable {prog : Program} {w : World} {A : Around} {E : Value -> Shared -> Prop} {s : Shared}
noncomputable def FV : D -> Value -> Prop
 | .str l, u => ∃ t, u = .str (T l) t
 | .int i, u => ∃ t, u = .int i t
 | _, _ => False
inductive FVs : List D -> List Value -> Prop
 | nil : FVs [] []
 | cons {d ds u us} : FV d u -> FVs ds us -> FVs (d :: ds) (u :: us)
end
end L2
set_option maxHeartbeats 1000000
namespace L2
open PySem PySem.W PyProof.Rows
end L2
namespace L2
open PySem PySem.W PyProof.Rows
structure MI (R : Nat -> Nat -> Prop) (ua ub o : List Nat) (i j : Nat) : Prop where
 hi : i <= ua.length
 hj : j <= ub.length
 pw : o.Pairwise R
 pa : ∀ x ∈ o, ∀ y ∈ ua.drop i, R x y
 pb : ∀ x ∈ o, ∀ y ∈ ub.drop j, R x y
 pm : o.Perm (ua.take i ++ ub.take j)
end L2
set_option maxHeartbeats 2000000
namespace L2
open PySem PySem.W PyProof.Rows
end L2
namespace L2
open PySem PySem.W PyProof.Rows
end L2
namespace L2
open PySem PySem.W PyProof.Rows
end L2
namespace L2
open PySem PySem.W PyProof.Rows
end L2
namespace L2
open PySem PySem.W PyProof.Rows
end L2
set_option maxHeartbeats 4000000
namespace L2
open PySem PySem.W PyProof.Rows
section
variable {X : Cx} {pins : List (Addr × Obj)} {σ : St} {H : Hp} {s : Shared}
noncomputable def Ty.tv : Ty -> Value
 | .s => .type "str"
 | .i => .type "int"
end
end L2
set_option maxHeartbeats 2000000
namespace L2
open PySem PySem.W PySem.Spec PyProof.Rows
noncomputable def cutD (xs : List D) (lo hi : Option Int) : List D := (xs.drop (HT.sIx xs.length 0 lo)).take (HT.sIx xs.length xs.length hi - HT.sIx xs.length 0 lo)
theorem Reps.cut {K : PySem.W.Frag} {H : Hp} {ds : List D} {xs : List V} (lo hi : Option Int) (h : Reps K H ds xs) : Reps K H (cutD ds lo hi) (cutV xs lo hi) := by
 unfold cutD cutV
 rw [<- h.length]
 exact (h.drop _).take _
section
variable {K : PySem.W.Frag} {G H₀ L : Hp} {ss : List Sl} {t ta tb : TE} {d : D} {ds : List D}
theorem zh7 (a : EvL K G H₀ L ss t ds) : Ev K G H₀ L ss (tCB (fun xs H Q => ∃ p ys, xs = [.ref p] /\ (SqL K H p ys \/ SqT K H p ys) /\ Q (.int ys.length) H) (zbn t tNil)) (.int ds.length) := fun F H σ Q S q =>
 a F H σ _ S fun p vs F' H' e sq r => ⟨p, vs, rfl, .inl sq, q _ _ _ e (by rw [<- r.length]; exact Rep.int)⟩
theorem zkz {l : List Nat} (a : EvB K G H₀ L ss t (.str l)) (hz : l.length <= sizeLine) : Ev K G H₀ L ss (tCB (fun xs H Q => ∃ z : Str, xs = [.str z] /\ z.length <= sizeLine /\ Q (.int z.length) H) (zbn t tNil)) (.int l.length) := fun F H σ Q S q =>
 a F H σ _ S fun v F' H' e r => by
  rw [r.of_str]
  exact ⟨T l, rfl, by rw [zb3]; exact hz, q _ _ _ e (by rw [zb3]; exact Rep.int)⟩
noncomputable def EvP (K : PySem.W.Frag) (G H₀ L : Hp) (ss : List Sl) (t : TO) (o : Option Int) : Prop := ∀ F H σ (Q : Option Int -> Hp -> Prop), Sat K G H₀ L F H σ ss -> (∀ F' H', Ext F H F' H' -> Q o H') -> t σ H Q
theorem zoh : EvP K G H₀ L ss zk2 none := fun F H σ Q S q => q _ _ (Ext.refl S.ext.fh)
theorem zlp {i : Int} (a : EvB K G H₀ L ss t (.int i)) : EvP K G H₀ L ss (zpa t) (some i) := fun F H σ Q S q => a F H σ _ S fun v F' H' e r => ⟨i, r.of_int, q _ _ e⟩
theorem znf {tl th : TO} {lo hi : Option Int} (a : EvL K G H₀ L ss t ds) (b : EvP K G H₀ L ss tl lo) (c : EvP K G H₀ L ss th hi) : EvO K G H₀ L ss (tSl (rSlL K) t tl th) (cutD ds lo hi) := fun F H σ Q S q =>
 a F H σ _ S fun p vs F1 H1 e1 sq r => b F1 H1 σ _ (S.ext2 e1) fun F2 H2 e2 => c F2 H2 σ _ ((S.ext2 e1).ext2 e2) fun F3 H3 e3 =>
  ⟨p, vs, rfl, SqL.same e3.hh (SqL.same e2.hh sq), fun l hl => q l _ F3 _ (((e1.trans e2).trans e3).newO hl) (((e1.trans e2).trans e3).hh.free hl) (((e1.trans e2).trans e3).fh.free hl) zal (((r.mono e2.gf).mono e3.gf).cut lo hi)⟩
noncomputable def glue (z : List Nat) : List (List Nat) -> List Nat
 | [] => []
 | [x] => x
 | x :: y :: r => x ++ z ++ glue z (y :: r)
end
theorem zmp (z : List Nat) : ∀ ls : List (List Nat), Str.join (T z) (ls.map T) = T (glue z ls)
 | [] => rfl
 | [x] => rfl
 | x :: y :: r => by
  have ih := zmp z (y :: r)
  rw [List.map_cons] at ih
  rw [List.map_cons, List.map_cons]
  show T x ++ T z ++ Str.join (T z) (T y :: r.map T) = _
  rw [ih, zn9, zn9]; rfl
theorem zih {z : List Nat} (hz : ∀ c ∈ z, c < 128) : ∀ {ls : List (List Nat)}, (∀ l ∈ ls, ∀ c ∈ l, c < 128) -> ∀ c ∈ glue z ls, c < 128
 | [], _, c, h => by cases h
 | [x], hl, c, h => hl x List.mem_cons_self c h
 | x :: y :: r, hl, c, h => by
  rw [glue] at h
  rcases List.mem_append.mp h with h | h
  ·rcases List.mem_append.mp h with h | h
   ·exact hl x List.mem_cons_self c h
   ·exact hz c h
  ·exact zih hz (ls:=y :: r) (fun l hm => hl l (List.mem_cons_of_mem _ hm)) c h
theorem Reps.strs {K : PySem.W.Frag} {H : Hp} : ∀ {ls : List (List Nat)} {vs : List V}, Reps K H (ls.map D.str) vs -> vs = (ls.map T).map V.str /\ ∀ l ∈ ls, ∀ c ∈ l, c < 128
 | [], vs, h => by rw [List.map_nil, Reps] at h; subst h; exact ⟨rfl, by simp⟩
 | l :: ls, vs, h => by
  rw [List.map_cons, Reps] at h
  obtain ⟨x, xs, rfl, h1, h2⟩ := h
  obtain ⟨e, ha⟩ := h2.strs
  refine ⟨by rw [h1.of_str, e]; rfl, fun m hm => ?_⟩
  rcases List.mem_cons.mp hm with rfl | hm
  ·exact h1.asc
  ·exact ha m hm
section
variable {K : PySem.W.Frag} {G H₀ L : Hp} {ss : List Sl} {t ta tb : TE} {d : D} {ds : List D}
theorem zh6 {z : List Nat} {ls : List (List Nat)} (a : EvB K G H₀ L ss ta (.str z)) (b : EvL K G H₀ L ss t (ls.map D.str)) (hz : (ls.map List.length).sum + ls.length * z.length <= 16777216) : Ev K G H₀ L ss (tBM K "str" (zpi K) ta (zbn t tNil)) (.str (glue z ls)) := fun F H σ Q S q =>
 a F H σ _ S fun v F1 H1 e1 r1 => by
  rw [r1.of_str]
  refine ⟨rfl, b F1 H1 σ _ (S.ext2 e1) fun p vs F2 H2 e2 sq r2 => ?_⟩
  obtain ⟨rfl, ha⟩ := r2.strs
  refine ⟨T z, p, ls.map T, rfl, rfl, sq, ?_, ?_⟩
  ·rw [List.map_map, List.length_map, zb3, show ((fun x : Str => x.length) ∘ T) = List.length from funext fun l => zb3 l]; exact hz
  ·rw [zmp]
   exact q _ _ _ (e1.trans e2) (Rep.str (zih r1.asc ha))
theorem zmk {l : List Nat} (a : EvB K G H₀ L ss t (.str l)) : Ev K G H₀ L ss (tCB (fun xs H Q => ∃ x, xs = [.str x, .ty "str"] /\ Q (.bl true) H) (zbn t (zbn (tC (.ty "str")) tNil))) (.bl true) := fun F H σ Q S q =>
 a F H σ _ S fun v F1 H1 e1 r1 => ⟨T l, by rw [r1.of_str], q _ _ _ e1 Rep.bl⟩
theorem zo8 (a : EvL K G H₀ L ss t ds) : Ev K G H₀ L ss (tCB (fun xs H Q => ∃ p ys, xs = [.ref p, .ty "list"] /\ SqL K H p ys /\ Q (.bl true) H) (zbn t (zbn (tC (.ty "list")) tNil))) (.bl true) := fun F H σ Q S q =>
 a F H σ _ S fun p vs F1 H1 e1 sq r1 => ⟨p, vs, rfl, sq, q _ _ _ e1 Rep.bl⟩
end
noncomputable def zd6 (goes : Nat -> Bool) (l : List Nat) : List Nat := ((l.dropWhile goes).reverse.dropWhile goes).reverse
theorem zbz (g : Nat -> Bool) : ∀ l : List Nat, l.drop (l.takeWhile g).length = l.dropWhile g
 | [] => rfl
 | x :: l => by
  rw [List.takeWhile_cons, List.dropWhile_cons]
  cases g x with
  | true => simp only [if_true, List.length_cons, List.drop_succ_cons]; exact zbz g l
  | false => rfl
theorem zm4 (l y : List Nat) : Txt.stripChars (T l) (T y) = T (zd6 y.contains l) := by
 have ct : (T y).cps.contains = y.contains := by funext c; simp [T]
 have key : PySem.stripped y.contains true true (T l) = T (zd6 y.contains l) := by
  unfold PySem.stripped PySem.stripLo PySem.stripHi
  simp only [if_true, ze9, zb3]
  rw [zbz]
  have h1 : (l.takeWhile y.contains).length + (l.dropWhile y.contains).length = l.length := by
   rw [<- List.length_append, List.takeWhile_append_dropWhile]
  have e : Builtin.Str.strSub (T l) (l.takeWhile y.contains).length (l.length - ((l.dropWhile y.contains).reverse.takeWhile y.contains).length) = T ((l.drop (l.takeWhile y.contains).length).take (l.length - ((l.dropWhile y.contains).reverse.takeWhile y.contains).length - (l.takeWhile y.contains).length)) := by
   unfold Builtin.Str.strSub
   congr 1
   apply Array.toList_inj.mp
   rw [Array.toList_extract]
   show List.extract (T l).cps.toList _ _ = _
   rw [ze9]
  rw [e, zbz]
  congr 1
  unfold zd6
  have h2 := zbz y.contains (l.dropWhile y.contains).reverse
  rw [<- h2]
  have h3 : ((l.dropWhile y.contains).reverse.takeWhile y.contains).length <= (l.dropWhile y.contains).length := by
   have := (List.takeWhile_sublist (p:=y.contains) (l:=(l.dropWhile y.contains).reverse)).length_le
   simpa using this
  rw [List.drop_reverse, List.reverse_reverse]
  congr 1; omega
 unfold Txt.stripChars Txt.stripBy
 rw [ct]
 split
 ·rename_i h
  rw [<- key]
  unfold stripSame at h
  simp only [Bool.and_eq_true, beq_iff_eq] at h
  unfold PySem.stripped
  rw [h.2, h.1]
  unfold Builtin.Str.strSub
  have : (T l).cps.extract 0 (T l).length = (T l).cps := by
   show (T l).cps.extract 0 (T l).cps.size = _
   simp
  rw [this]
 ·exact key
noncomputable def zke : V -> List V -> Hp -> VK -> Prop := fun x vs H Q => ∃ z y, x = .str z /\ vs = [.str y] /\ z.length <= sizeLine /\ Q (.str (Txt.stripChars z y)) H
section
variable {X : Cx}
theorem zkj : MtR X "str.strip" zke := by
 intro pins s σ H x xs v us Q I rx rs h
 obtain ⟨z, y, rfl, rfl, hz, q⟩ := h
 obtain ⟨t, rfl⟩ := rx
 obtain ⟨u, rfl, ru⟩ := Vals.one rs
 obtain ⟨u, rfl⟩ := ru
 exact SC.stripChars (fun t' k => ⟨.str _, H, I.tok _, ⟨_, rfl⟩, q⟩) hz
end
section
variable {K : PySem.W.Frag} {G H₀ L : Hp} {ss : List Sl} {t ta tb : TE} {d : D} {ds : List D}
theorem zlh {l y : List Nat} (a : EvB K G H₀ L ss ta (.str l)) (b : EvB K G H₀ L ss t (.str y)) (hz : l.length <= sizeLine) : Ev K G H₀ L ss (tBM K "str" zke ta (zbn t tNil)) (.str (zd6 y.contains l)) := fun F H σ Q S q =>
 a F H σ _ S fun v F1 H1 e1 r1 => by
  rw [r1.of_str]
  refine ⟨rfl, b F1 H1 σ _ (S.ext2 e1) fun v2 F2 H2 e2 r2 => ?_⟩
  refine ⟨T l, T y, rfl, by rw [r2.of_str], by rw [zb3]; exact hz, ?_⟩
  rw [zm4]
  refine q _ _ _ (e1.trans e2) (Rep.str fun c hc => r1.asc c ?_)
  unfold zd6 at hc
  exact (List.dropWhile_sublist _).subset (List.mem_reverse.mp ((List.dropWhile_sublist _).subset (List.mem_reverse.mp hc)))
end
end L2
namespace L2
open PySem PySem.W PySem.Spec PyProof.Rows
noncomputable def rAll (K : PySem.W.Frag) : List V -> Hp -> VK -> Prop := fun xs H Q => ∃ p, ∃ bs : List Bool, xs = [.ref p] /\ SqL K H p (bs.map V.bl) /\ Q (.bl (bs.all id)) H
section
variable {X : Cx} {prog : Program} {w : World} {A : Around} {E : Value -> Shared -> Prop} {s : Shared}
theorem zlm {h' : Heap} {o : Obj} {k : Nat} (hk : ∀ b x, b ∉ [s.heap.objs.size] -> (s.heap.push o).get? b = some x -> h'.get? b = some x) : zp3 s.heap h' := fun b x e => by
 refine hk b x (fun hm => ?_) (Heap.get?_push_of_some _ e)
 have h1 := Heap.lt_size e
 rw [List.mem_singleton.mp hm] at h1
 exact Nat.lt_irrefl _ h1
theorem zj2 : ∀ {bs : List Bool} {us : List Value}, Vals (bs.map V.bl) us -> us = bs.map Value.bool
 | [], _, .nil => rfl
 | b :: bs, _, .cons r1 r2 => by rw [zj2 r2]; cases r1; rfl
theorem zi8 : ∀ bs : List Bool, ((List.range bs.length).all fun i => (bs[i]?).getD true) = bs.all id := fun bs => by
 rw [Bool.eq_iff_iff, List.all_eq_true, List.all_eq_true]
 constructor
 ·intro h b hb
  obtain ⟨i, hi, e⟩ := List.getElem_of_mem hb
  have := h i (List.mem_range.mpr hi)
  rw [List.getElem?_eq_getElem hi, Option.getD_some, e] at this
  exact this
 ·intro h i hi
  have hi' := List.mem_range.mp hi
  rw [List.getElem?_eq_getElem hi', Option.getD_some]
  exact h _ (List.getElem_mem hi')
theorem zlv (hc : X.calm = true) : zb2 X (.builtin "all") (rAll X.K) := by
 intro pins s σ H xs us Q I r h
 obtain ⟨p, bs, rfl, hq, q⟩ := h
 obtain ⟨u, rfl, ru⟩ := zho r
 cases ru
 obtain ⟨its, rv, pl, _⟩ := I.list hq
 obtain rfl := zj2 rv
 have hl := pl.isList
 have hlt : p < s.heap.objs.size := by obtain ⟨_, e, _⟩ := hl; exact Heap.lt_size e
 refine call_all_walk (wpAny_pyIter_list hl ⟨s.heap.objs.size, [s.heap.objs.size, p], [s.heap.objs.size], (bs.map Value.bool).toArray.size, _, _, fun i => (bs[i]?).getD true, rfl,
  Walks.list (A:=X.A.in1) (I.ok.hd hc) _ p (Nat.ne_of_lt hlt) _, ⟨⟨_, Heap.get?_push_size _ rfl, rfl, rfl⟩, hl.push _⟩, fun i v s' Q' E' hP hQ => ?_, fun h' tk hk => ?_⟩)
 ·have hP' : (bs.map Value.bool)[i]? = some v := by simpa using hP
  rw [List.getElem?_map] at hP'
  cases hb : bs[i]? with
  | none => rw [hb] at hP'; cases hP'
  | some b =>
   rw [hb] at hP'
   cases hP'
   simp only [hb, Option.getD_some] at hQ
   exact wpAny_truthy_bool hQ
 ·have e : ((List.range (bs.map Value.bool).toArray.size).all fun i => (bs[i]?).getD true) = bs.all id := by
   rw [List.size_toArray, List.length_map]; exact zi8 bs
  rw [e]
  exact ⟨.bl _, H, I.kept (zlm (k:=0) hk), rfl, q⟩
noncomputable def two (x y : Str) (t u : Tok) : Array Value := #[.str x t, .str y u]
end
end L2
namespace L2
open PySem PySem.W PySem.Spec PyProof.Rows PySem.Calls
open PySem.MeetsSeq PySem.MeetsSeq2 PySem.MeetsSeq3
section
variable {K : PySem.W.Frag} {G H₀ L : Hp} {ss : List Sl} {t ta tb : TE} {d : D} {ds es : List D}
theorem Reps.bools {H : Hp} : ∀ {bs : List Bool} {vs : List V}, Reps K H (bs.map D.bl) vs -> vs = bs.map V.bl
 | [], vs, h => by rw [List.map_nil, Reps] at h; exact h
 | b :: bs, vs, h => by
  rw [List.map_cons, Reps] at h
  obtain ⟨x, xs, rfl, h1, h2⟩ := h
  rw [h1.of_bl, h2.bools]; rfl
theorem zox {bs : List Bool} (a : EvL K G H₀ L ss t (bs.map D.bl)) : Ev K G H₀ L ss (tCB (rAll K) (zbn t tNil)) (.bl (bs.all id)) := fun F H σ Q S q =>
 a F H σ _ S fun p vs F1 H1 e1 sq r1 => ⟨p, bs, rfl, by rw [r1.bools] at sq; exact sq, q _ _ _ e1 Rep.bl⟩
end
end L2
namespace L2
open PySem PySem.W PySem.Spec PyProof.Rows
noncomputable def slots (n : Nat) (ds : List D) : List Sl := ds.map Sl.d ++ List.replicate (n - ds.length) .un
section
variable {K : PySem.W.Frag} {H : Hp} {vs : List V} {Q : VK} {X : XK} {N : List Str} {t : TS} {pre : List D -> Prop}
theorem zb4 {G : Hp} {ds : List D} (sm : Same G H) (r : Reps K G ds vs) (hN : vs.length <= N.length) : Sat K G H G G H (start N vs) (slots N.length ds) := by
 have hl := r.length
 have ads : ∀ (i : Nat) s, (slots N.length ds)[i]? = some s -> s.ads = [] := fun i s hs => by
  have hm := List.mem_of_getElem? hs
  unfold slots at hm
  rcases List.mem_append.mp hm with h | h
  ·obtain ⟨d, _, rfl⟩ := List.mem_map.mp h; rfl
  ·rw [List.eq_of_mem_replicate h]; rfl
 refine ⟨Ext.refl sm, Same.refl _, ?_, fun i s hs => ?_, fun i s hs => by rw [ads i s hs]; exact List.nodup_nil, fun i j s s' _ hs _ p hp => by rw [ads i s hs] at hp; cases hp⟩
 ·unfold start slots; simp; lia
 ·by_cases hi : i < ds.length
  ·have e : (slots N.length ds)[i]? = some (.d ds[i]) := by
    unfold slots
    rw [List.getElem?_append_left (by simpa using hi), List.getElem?_map, List.getElem?_eq_getElem hi]; rfl
   rw [e] at hs
   cases hs
   obtain ⟨v, hv, rv⟩ := r.get' (List.getElem?_eq_getElem hi)
   refine ⟨v, ?_, rv⟩
   unfold start
   rw [List.getD_eq_getElem?_getD, List.getElem?_append_left (by simp; lia), List.getElem?_map, hv]; rfl
  ·have hm : s = .un := by
    unfold slots at hs
    rw [List.getElem?_append_right (by simp; lia)] at hs
    exact List.eq_of_mem_replicate (List.mem_of_getElem? hs)
   rw [hm]; trivial
theorem zkq {res : List D -> D} (h : SpD K pre res vs H Q X) (hN : vs.length <= N.length) (body : ∀ G ds, pre ds -> RtD K G H Q (res ds) -> Go K G H G { nx := fun _ H' => Q .non H', rt := Q } (slots N.length ds) t) : t { nx := fun _ H' => Q .non H', rt := Q } (start N vs) H := by
 obtain ⟨G, ds, sm, r, hp, q⟩ := h
 exact body G ds hp (fun v F H' e r => q v F H' e r) G H _ (zb4 sm r hN)
theorem zoo {res : List D -> List D} (h : SpO K pre res vs H Q X) (hN : vs.length <= N.length) (body : ∀ G ds, pre ds -> RtO K G H Q (res ds) -> Go K G H G { nx := fun _ H' => Q .non H', rt := Q } (slots N.length ds) t) : t { nx := fun _ H' => Q .non H', rt := Q } (start N vs) H := by
 obtain ⟨G, ds, sm, r, hp, q⟩ := h
 exact body G ds hp (fun p ws F H' e h1 h2 h3 r => q p ws F H' e h1 h2 h3 r) G H _ (zb4 sm r hN)
theorem zdv {res : List D -> D} {n : Nat} (hpre : ∀ ds, pre ds -> ds.length = n) (h : SpD K pre res vs H Q X) : vs.length = n := by
 obtain ⟨G, ds, sm, r, hp, q⟩ := h
 rw [<- r.length]; exact hpre ds hp
theorem zka {res : List D -> List D} {n : Nat} (hpre : ∀ ds, pre ds -> ds.length = n) (h : SpO K pre res vs H Q X) : vs.length = n := by
 obtain ⟨G, ds, sm, r, hp, q⟩ := h
 rw [<- r.length]; exact hpre ds hp
end
section
variable {K : PySem.W.Frag} {G H₀ L : Hp} {ss : List Sl} {t ta tb : TE} {d : D} {ds es : List D} {i j : Int}
theorem zd8 (a : EvB K G H₀ L ss ta (.int i)) (b : EvB K G H₀ L ss tb (.int j)) (h : 0 < j) : Ev K G H₀ L ss (tOp (rI (fun _ j => 0 < j) fun i j => .int (i % j)) ta tb) (.int (i % j)) := zj1 (C:=fun _ j => 0 < j) (g:=fun i j => i % j) a b h
theorem zdn (a : EvB K G H₀ L ss ta (.int i)) (b : EvB K G H₀ L ss tb (.int j)) (h : CDiv i j) : Ev K G H₀ L ss (tOp (rI CDiv fun i j => .int (i / j)) ta tb) (.int (i / j)) := zj1 (C:=CDiv) (g:=fun i j => i / j) a b h
end
theorem zo6 (n d : Nat) {a : Int} (h : 0 <= a) : HT.sIx n d (some a) = min a.toNat n := by
 show (if a < 0 then (a + (n : Int)).toNat else min a.toNat n) = _
 rw [if_neg (by lia)]
theorem zmx (m : List D) {a : Int} (h : 0 <= a) : cutD m none (some a) = m.take a.toNat := by
 unfold cutD
 rw [zo6 _ _ h, show HT.sIx m.length 0 none = 0 from rfl, List.drop_zero, Nat.sub_zero, <- List.take_eq_take_min]
end L2
namespace L2
open PySem PySem.W PySem.Spec PyProof.Rows
theorem zii {α β : Type} (xs : List α) (z : α) (p : α -> Bool) (f : α -> β) : ((List.range xs.length).filter fun i => p (xs.getD i z)).map (fun i => f (xs.getD i z)) = (xs.filter p).map f := by
 have e : xs = (List.range xs.length).map fun i => xs.getD i z := by
  refine List.ext_getElem? fun i => ?_
  rw [List.getElem?_map]
  by_cases hi : i < xs.length
  ·rw [List.getElem?_range hi, List.getElem?_eq_getElem hi]; simp [List.getD_eq_getElem?_getD, hi]
  ·rw [List.getElem?_eq_none (by lia), List.getElem?_eq_none (by simp; lia)]; rfl
 conv => rhs; rw [e]
 rw [List.filter_map, List.map_map]
 rfl
section
variable {K : PySem.W.Frag} {G H₀ L : Hp} {ss : List Sl}
theorem znx {α : Type} (xs : List α) (enc : α -> D) (p : α -> Bool) (f : α -> D) {tl : TE} {g : TG} {tt : TT} {te : TE} {nt : Nat} {cs : List Nat} (a : EvL K G H₀ L ss tl (xs.map enc)) (hk : GK nt g) (hc : cs.Nodup) (hz : xs.length < sizeLine)
  (hs : ∀ x ∈ xs, ∃ ss', Tg K G H₀ L g (enc x) (lcSl nt cs ss) ss' /\ EvT K G H₀ L ss' tt (p x) /\ (p x = true -> Ev K G H₀ L ss' te (f x))) :
  EvO K G H₀ L ss (tLC nt cs (zjy K tl) g tt te) ((xs.filter p).map f) := by
 cases xs with
 | nil =>
  have := zfo (p:=fun _ => true) (f:=fun _ => .non) (tt:=tt) (te:=te) (zis a) hk hc (by simpa using hz) (fun i hi => by simp at hi)
  simpa using this
 | cons z zs =>
  have hl : ((z :: zs).map enc).length = (z :: zs).length := by simp
  have := zfo (p:=fun i => p ((z :: zs).getD i z)) (f:=fun i => f ((z :: zs).getD i z)) (tt:=tt) (te:=te) (zis a) hk hc (by rw [hl]; exact hz) (fun i hi => by
   rw [hl] at hi
   have hm : (z :: zs).getD i z ∈ (z :: zs) := by
    rw [List.getD_eq_getElem?_getD, List.getElem?_eq_getElem hi]; exact List.getElem_mem hi
   have e : ((z :: zs).map enc).getD i .non = enc ((z :: zs).getD i z) := by
    rw [List.getD_eq_getElem?_getD, List.getElem?_map, List.getD_eq_getElem?_getD, List.getElem?_eq_getElem hi]; rfl
   rw [e]
   exact hs _ hm)
  rw [hl, zii] at this
  exact this
theorem ziu : EvT K G H₀ L ss zjj true := fun F H σ Q S q => q _ _ (Ext.refl S.ext.fh)
theorem zkk {α : Type} (xs : List α) (enc : α -> D) (f : α -> D) {tl : TE} {g : TG} {te : TE} {nt : Nat} {cs : List Nat} (a : EvL K G H₀ L ss tl (xs.map enc)) (hk : GK nt g) (hc : cs.Nodup) (hz : xs.length < sizeLine)
  (hs : ∀ x ∈ xs, ∃ ss', Tg K G H₀ L g (enc x) (lcSl nt cs ss) ss' /\ Ev K G H₀ L ss' te (f x)) :
  EvO K G H₀ L ss (tLC nt cs (zjy K tl) g zjj te) (xs.map f) := by
 have := znx xs enc (fun _ => true) f a hk hc hz (tt:=zjj) (te:=te) fun x hx => by
  obtain ⟨ss', h1, h2⟩ := hs x hx
  exact ⟨ss', h1, ziu, fun _ => h2⟩
 rw [show xs.filter (fun _ => true) = xs from List.filter_eq_self.mpr (by simp)] at this
 exact this
theorem zm6 {α : Type} {xs : List α} {g : α -> Bool} {t : TE} (b : EvL K G H₀ L ss t (xs.map fun x => D.bl (g x))) : Ev K G H₀ L ss (tCB (rAll K) (zbn t tNil)) (.bl (xs.all g)) := by
 have := zox (K:=K) (G:=G) (H₀:=H₀) (L:=L) (ss:=ss) (t:=t) (bs:=xs.map g) (by rw [List.map_map]; exact b)
 rw [List.all_map] at this
 exact this
theorem zgp {x : Str} (ha : ∀ c ∈ x.cps.toList, c < 128) : Ev K G H₀ L ss (tC (.str x)) (.str x.cps.toList) := zaq (by cases x; rfl) ha
end
end L2
set_option maxHeartbeats 4000000
namespace L2T
open PySem
structure TOk (t : SetTable) : Prop where
 pl : t.place.toList.Pairwise (· < ·)
 du : t.dummies.toList.Pairwise (· < ·)
 ple : ∀ j ∈ t.place.toList, j <= t.mask
 dle : ∀ j ∈ t.dummies.toList, j <= t.mask
 dis : ∀ j ∈ t.dummies.toList, j ∉ t.place.toList
 pow : ∃ k, t.mask + 1 = 2 ^ (k + 3)
 big : t.mask <= 8191
end L2T
namespace L2T
open PySem SetTable
noncomputable def advM (mask : Nat) (p : Probe) : Probe :=
 if p.more > 0 then { p with j := p.j + 1, more := p.more - 1 } else
 let (i, perturb) := leap mask p.i p.perturb
 { p with j := i, more := runEnd mask i - i, i, perturb }
noncomputable def stM (mask i perturb : Nat) : Probe := { j := i, more := runEnd mask i - i, i, perturb, dummy := none }
noncomputable def prM (mask : Nat) (h : Int) : Nat -> Probe
 | 0 => stM mask (bits h % (mask + 1)) (bits h)
 | n + 1 => advM mask (prM mask h n)
noncomputable def posM (mask : Nat) (h : Int) (n : Nat) : Nat := (prM mask h n).j
noncomputable def zp2 (t : SetTable) (h : Int) (j : Nat) : Prop := ∃ n, posM t.mask h n = j /\ ∀ m, m < n -> t.slot (posM t.mask h m) ≠ .empty
end L2T
namespace L2T
open PySem SetTable
structure SOk {α : Type} (t : SetTable) (es : List (Int × α)) : Prop where
 ok : TOk t
 room : t.fill * 5 < t.mask * 3
 size : t.place.size = es.length
 reach : ∀ c ∈ t.place.toList.zip es, zp2 t c.2.1 c.1
noncomputable def zpt (mask : Nat) (owner : Array (Option Nat)) : List (Nat × Nat) := (List.range (mask + 1)).filterMap fun j => (owner.getD j none).map (j, ·)
structure LInv (mask : Nat) (hs : List Int) (owner : Array (Option Nat)) : Prop where
 size : owner.size = mask + 1
 perm : ((zpt mask owner).map (·.2)).Perm (List.range hs.length)
 reach : ∀ j i, owner.getD j none = some i -> ∃ h, hs[i]? = some h /\ ∃ n, posM mask h n = j /\ ∀ q, q < n -> owner.getD (posM mask h q) (some 0) ≠ none
end L2T
namespace L2T
open PySem SetTable
end L2T
namespace L2
open PySem PySem.Spec PyProof.Rows L2T
inductive SK where
 | one (k : Key)
 | many (ks : List Key)
 deriving DecidableEq
noncomputable def SK.flat : SK -> Bool
 | .one _ => true
 | .many _ => false
section
variable (prog : Program) (w : World)
noncomputable def SK.is (h : Heap) : SK -> Value -> Prop
 | .one k, v => (zdx prog w).is k v = true
 | .many ks, v => ∃ a, v = .ref a /\ IsTupleKey (zdx prog w) h ks a
noncomputable def SK.hash : SK -> Int
 | .one k => (zdx prog w).hash k
 | .many ks => tupleKeyHash (zdx prog w) ks
inductive Es (h : Heap) : List SK -> List (Int × Value) -> Prop
 | nil : Es h [] []
 | cons {k : SK} {e : Int × Value} {ks : List SK} {es : List (Int × Value)} : e.1 = k.hash prog w -> k.is prog w h e.2 -> Es h ks es -> Es h (k :: ks) (e :: es)
noncomputable def led0 : Bool := !w.params.followText "set-order"
structure SetO (h : Heap) (o : Obj) (ks : List SK) (es : Array (Int × Value)) (ep : Nat) (t : SetTable) : Prop where
 ex : o.ExactSet
 data : o.data = .set es ep t
 tab : SOk t es.toList
 ent : Es prog w h ks es.toList
 nod : ks.Nodup
 zc4 : ks.length <= 1000
 led : t.led = led0 w
 kind : ∃ f, ∀ k ∈ ks, k.flat = f
end
end L2
namespace L2
open PySem PySem.Spec PyProof.Rows L2T
end L2
namespace L2
open PySem PySem.Spec PyProof.Rows L2T
end L2
namespace L2
open PySem PySem.Spec PyProof.Rows L2T
section
variable {prog : Program} {w : World} {A : Around} {E : Value -> Shared -> Prop} {s : Shared}
theorem zi7 {n : Nat} (h : n <= 1001) : n <= sizeLine := by rw [sizeLine_eq]; lia
end
end L2
namespace L2
open PySem PySem.Spec PyProof.Rows L2T
section
variable {prog : Program} {w : World} {A : Around} {E : Value -> Shared -> Prop} {s : Shared}
structure SetL (w : World) (o : Obj) (es : Array (Int × Value)) (ep : Nat) (t : SetTable) : Prop where
 data : o.data = .set es ep t
 tab : SOk t es.toList
 led : t.led = led0 w
end
end L2
namespace L2
open PySem PySem.Spec PyProof.Rows L2T
end L2
namespace L2
open PySem PySem.Spec PyProof.Rows L2T
end L2
namespace L2
open PySem PySem.Spec PyProof.Rows L2T
section
variable {prog : Program} {w : World} {A : Around} {E : Value -> Shared -> Prop} {s : Shared}
structure Part (prog : Program) (w : World) (k0 : List SK) (items : Array Value) (i : Nat) (ks : List SK) (es : Array (Int × Value)) : Prop where
 mem : ∀ k, k ∈ ks ↔ ∃ j : Nat, j < i /\ k0[j]? = some k
 len : ks.length <= i
 ent : ∀ e ∈ es.toList, ∃ j : Nat, items[j]? = some e.2
end
end L2
namespace L2
open PySem PySem.Spec PyProof.Rows L2T
end L2
namespace L2
open PySem PySem.Spec PyProof.Rows L2T
end L2
namespace L2
open PySem PySem.Spec PyProof.Rows L2T
section
variable {prog : Program} {w : World} {A : Around} {E : Value -> Shared -> Prop} {s : Shared}
structure Took (kb : List SK) (p : SK -> Bool) (es0 : List (Int × Value)) (kd : List SK) (kr : List SK) (er : Array (Int × Value)) : Prop where
 mem : ∀ k, k ∈ kr ↔ k ∈ kb \/ (k ∈ kd /\ p k = true)
 len : kr.length <= kb.length + kd.length
 ent : ∀ e ∈ er.toList, e ∈ es0
end
end L2
namespace L2
open PySem PySem.Spec PyProof.Rows L2T
end L2
namespace L2
open PySem PySem.Spec PyProof.Rows L2T
end L2
namespace L2
open PySem PySem.Spec PyProof.Rows L2T
end L2
namespace L2
open PySem PySem.Spec PyProof.Rows L2T
end L2
namespace L2
open PySem PySem.Spec PyProof.Rows L2T
end L2
namespace L2
open PySem PySem.Spec PyProof.Rows L2T
end L2
namespace L2
open PySem PySem.Spec PyProof.Rows L2T
noncomputable def D.kk : D -> Key
 | .int i => .inl i
 | .str l => .inr (T l)
 | _ => .inl 0
noncomputable def D.fl : D -> Bool
 | .int _ => true
 | .str _ => true
 | _ => false
noncomputable def D.hk : Bool -> D -> Bool
 | true, d => d.fl
 | false, .tup ds => ds.all D.fl
 | false, _ => false
end L2
namespace L2
open PySem PySem.Spec PyProof.Rows L2T
end L2
namespace L2
open PySem PySem.W PyProof.Rows L2T
end L2
namespace L2
open PySem PySem.W PyProof.Rows L2T
end L2
namespace L2
open PySem PySem.W PyProof.Rows L2T
end L2
namespace L2
open PySem PySem.W PyProof.Rows L2T
noncomputable def znn (K : PySem.W.Frag) : R2 := fun x y H Q => ∃ l b xs zs, x = .ref l /\ y = .ref b /\ SqL K H l xs /\ SqL K H b zs /\ xs.length + zs.length <= sizeLine /\ ∀ p, H p = none -> Q (.ref p) (upd H p (.lst (xs ++ zs)))
theorem zms {X : Cx} : OpR X (binaryOp .Add) (znn X.K) := by
 intro pins s σ H x y v u Q I rx ry h
 obtain ⟨l, b, xs, zs, rfl, rfl, hl, hb, hz, q⟩ := h
 cases rx
 cases ry
 obtain ⟨its, r, pl, _⟩ := I.list hl
 obtain ⟨its2, r2, pl2, _⟩ := I.list hb
 have z1 := r.length
 have z2 := r2.length
 obtain ⟨⟨cls, dd, data, sl⟩, ho, hc, n, hd⟩ := pl.isList
 obtain ⟨⟨cls2, dd2, data2, sl2⟩, ho2, hc2, n2, hd2⟩ := pl2.isList
 dsimp only at hc hd hc2 hd2
 subst hc; subst hd; subst hc2; subst hd2
 refine concat_meets ⟨_, ho, rfl⟩ ⟨_, ho2, rfl⟩ noFill_list_add seq_list_add PySem.F.slot_list_add PySem.F.entry_list_add (PySem.F.args_list_add_2 _ _) (list_addW l b its.toArray its2.toArray n n2 dd dd2 sl sl2 (by simp; lia)) ⟨ho, ho2, ?_⟩
 have ea : its.toArray ++ its2.toArray = (its ++ its2).toArray := by simp
 rw [ea]
 exact ⟨.ref _, _, I.lnew (t':=s.toks) (r.append r2) (by rw [List.length_append]; omega), rfl, q _ I.fresh⟩
section
variable {K : PySem.W.Frag} {G H₀ L : Hp} {ss : List Sl} {ta tb : TE} {da db : List D}
theorem zm5 (a : EvL K G H₀ L ss ta da) (b : EvL K G H₀ L ss tb db) (hz : da.length + db.length <= sizeLine) : EvO K G H₀ L ss (tOp (znn K) ta tb) (da ++ db) := fun F H σ Q S q =>
 a F H σ _ S fun p vs F1 H1 e1 sq1 r1 => b F1 H1 σ _ (S.ext2 e1) fun p2 vs2 F2 H2 e2 sq2 r2 => by
  have l1 := r1.length
  have l2 := r2.length
  refine ⟨p, p2, vs, vs2, rfl, rfl, SqL.same e2.hh sq1, sq2, by lia, fun l hl => ?_⟩
  have e12 := e1.trans e2
  exact q l _ F2 _ (e12.newO hl) (e12.hh.free hl) (e12.fh.free hl) zal ((r1.mono e2.gf).append r2)
theorem zl3 {d : D} {v : V} (r : ∀ H, Rep K H d v) : Ev K G H₀ L ss (tC v) d := fun F H σ Q S q => q _ _ _ (Ext.refl S.ext.fh) (r _)
end
theorem zhh {K : PySem.W.Frag} {H : Hp} : ∀ (ls : List (List Nat)), (∀ l ∈ ls, ∀ c ∈ l, c < 128) -> Reps K H (ls.map .str) (ls.map fun l => .str (T l))
 | [], _ => Reps.nil
 | l :: ls, h => Reps.cons (Rep.str (h l List.mem_cons_self)) (zhh ls fun l' hl => h l' (List.mem_cons_of_mem _ hl))
theorem zff : ∀ {ls : List (List Nat)} {us : List Value}, ls.length = us.length -> (∀ (i : Nat) (l : List Nat) (u : Value), ls[i]? = some l -> us[i]? = some u -> ∃ t, u = .str (T l) t) -> Vals (ls.map fun l => V.str (T l)) us
 | [], us, hl, _ => by cases us with
  | nil => exact .nil
  | cons _ _ => simp at hl
 | l :: ls, us, hl, h => by cases us with
  | nil => simp at hl
  | cons u us => exact .cons (h 0 l u rfl rfl) (zff (by simpa using hl) fun i l' u' h1 h2 => h (i + 1) l' u' h1 h2)
noncomputable def TupK (K : PySem.W.Frag) (a : Addr) (ls : List (List Nat)) : Prop := ∀ H, Rep K H (.tup (ls.map .str)) (.ref a)
theorem zmt {K : PySem.W.Frag} {a : Addr} {o : Obj} {its : Array Value} {n : Nat} {ls : List (List Nat)} (hk : K.lookup a = some o) (hc : o.cls = .type "tuple") (hd : o.data = .seq its n) (hl : ls.length = its.size) (hs : ls.length <= 1000) (ha : ∀ l ∈ ls, ∀ c ∈ l, c < 128)
  (h : ∀ (i : Nat) (l : List Nat) (u : Value), ls[i]? = some l -> its.toList[i]? = some u -> ∃ t, u = .str (T l) t) : TupK K a ls := fun H =>
 Rep.tup (.inr ⟨o, its, n, hk, hc, hd, by rw [<- hl]; exact zi7 (by lia), zff (by simpa using hl) h⟩) (zhh ls ha)
end L2
namespace L2
open PySem PySem.W PyProof.Rows L2T
end L2
namespace L2
open PySem PySem.W PyProof.Rows L2T
end L2
namespace L2
open PySem PySem.W PyProof.Rows L2T
end L2
namespace L2
open PySem PySem.W PySem.Spec PyProof.Rows
end L2
namespace L2
open PySem PySem.W PySem.Spec PyProof.Rows
end L2
namespace L2
open PySem PySem.W PyProof.Rows L2T
section
variable {K : PySem.W.Frag} {G H₀ L : Hp} {ss : List Sl} {ta tb t : TE}
theorem zo3 {i j : Int} (a : EvB K G H₀ L ss ta (.int i)) (b : EvB K G H₀ L ss tb (.int j)) : Ev K G H₀ L ss (tOp (rI0 fun i j => .bl (decide (j < i))) ta tb) (.bl (decide (j < i))) := zjs (g:=fun i j => decide (j < i)) a b
theorem zpx {i j : Int} (a : EvB K G H₀ L ss ta (.int i)) (b : EvB K G H₀ L ss tb (.int j)) : Ev K G H₀ L ss (tOp (rI0 fun i j => .bl (decide (i <= j))) ta tb) (.bl (decide (i <= j))) := zjs (g:=fun i j => decide (i <= j)) a b
end
end L2
namespace L2
open PySem PySem.W PySem.Spec PyProof.Rows
noncomputable def SpRD (K : PySem.W.Frag) (pre : List D -> Prop) (R : List D -> D -> Prop) : Sp := fun vs H Q _ => ∃ G ds, Same G H /\ Reps K G ds vs /\ pre ds /\ ∀ r, R ds r -> ∀ v G' H', Ext G H G' H' -> Rep K G' r v -> Q v H'
section
variable {K : PySem.W.Frag} {H : Hp} {vs : List V} {Q : VK} {X : XK} {N : List Str} {t : TS} {pre : List D -> Prop} {R : List D -> D -> Prop}
theorem zn3 (h : SpRD K pre R vs H Q X) (hN : vs.length <= N.length) (body : ∀ G ds, pre ds -> (∀ r, R ds r -> RtD K G H Q r) -> Go K G H G { nx := fun _ H' => Q .non H', rt := Q } (slots N.length ds) t) : t { nx := fun _ H' => Q .non H', rt := Q } (start N vs) H := by
 obtain ⟨G, ds, sm, r, hp, q⟩ := h
 exact body G ds hp (fun rs hR v F H' e r => q rs hR v F H' e r) G H _ (zb4 sm r hN)
theorem zin {n : Nat} (hpre : ∀ ds, pre ds -> ds.length = n) (h : SpRD K pre R vs H Q X) : vs.length = n := by
 obtain ⟨G, ds, sm, r, hp, q⟩ := h
 rw [<- r.length]; exact hpre ds hp
end
section
variable {K : PySem.W.Frag} {G H₀ L : Hp} {ss : List Sl} {t : TA} {ds : List D} {pre : List D -> Prop} {R : List D -> D -> Prop} {E : XK} {D0 : Ends} {ta tb te : TE} {i j : Int}
theorem zlj {g : TG} (a : EvAF K G H₀ L ss t ds) (hp : pre ds) (h : ∀ r, R ds r -> ∃ ss', Tg K G H₀ L g r ss ss' /\ Nx K G H₀ L D0.nx ss') : Go K G H₀ L D0 ss (tAsg (zia (SpRD K pre R) [] E t) g) := fun F H σ S =>
 a F H σ _ S fun vs F1 H1 e1 r1 => ⟨F1, ds, e1.fh, by rw [List.append_nil]; exact r1, hp, fun r hR v G' H' e2 rr => by
  obtain ⟨ss', tg, nx⟩ := h r hR
  exact tg _ H' σ _ _ (S.ext2 (e1.trans e2)) rr fun σ' S' => nx _ H' σ' S'⟩
theorem zoq (a : EvB K G H₀ L ss te (.int i)) : Ev K G H₀ L ss (tCB (fun xs H Q => ∃ x, xs = [.int x, .ty "int"] /\ Q (.bl true) H) (zbn te (zbn (tC (.ty "int")) tNil))) (.bl true) := fun F H σ Q S q =>
 a F H σ _ S fun v F1 H1 e1 r1 => ⟨i, by rw [r1.of_int], q _ _ _ e1 Rep.bl⟩
theorem znw (a : EvB K G H₀ L ss te (.int i)) : Ev K G H₀ L ss (tCB (fun xs H Q => ∃ x, xs = [.int x, .ty "bool"] /\ Q (.bl false) H) (zbn te (zbn (tC (.ty "bool")) tNil))) (.bl false) := fun F H σ Q S q =>
 a F H σ _ S fun v F1 H1 e1 r1 => ⟨i, by rw [r1.of_int], q _ _ _ e1 Rep.bl⟩
theorem zno (a : EvB K G H₀ L ss te (.int i)) : Ev K G H₀ L ss (tCB (fun xs H Q => ∃ i, xs = [.int i] /\ Q (.int (if i < 0 then -i else i)) H) (zbn te tNil)) (.int (if i < 0 then -i else i)) := fun F H σ Q S q =>
 a F H σ _ S fun v F1 H1 e1 r1 => ⟨i, by rw [r1.of_int], q _ _ _ e1 Rep.int⟩
theorem zn8 (a : EvB K G H₀ L ss te (.int i)) : Ev K G H₀ L ss (tUn (rU fun i => .int (-i)) te) (.int (-i)) := fun F H σ Q S q =>
 a F H σ _ S fun v F1 H1 e1 r1 => ⟨i, by rw [r1.of_int], q _ _ _ e1 Rep.int⟩
theorem zon (a : EvB K G H₀ L ss ta (.int i)) (b : EvB K G H₀ L ss tb (.int j)) (h : CPow i j) : Ev K G H₀ L ss (tOp (rI CPow fun i j => .int (i ^ j.toNat)) ta tb) (.int (i ^ j.toNat)) := zj1 (C:=CPow) (g:=fun i j => i ^ j.toNat) a b h
end
end L2
namespace L2
open PySem PySem.W PySem.Spec PyProof.Rows PySem.Builtin PySem.Builtin.Str PySem.StrLaws
noncomputable def posL (z : Nat) : Nat -> List Nat -> List Nat
 | _, [] => []
 | a, x :: l => if x = z then a :: posL z (a + 1) l else posL z (a + 1) l
theorem zk9 (pre l : List Nat) (z : Nat) : subAt (T (pre ++ l)) (T [z]) pre.length = decide (l.head? = some z) := by
 rw [Bool.eq_iff_iff, decide_eq_true_eq]
 have h := subAt_one (T (pre ++ l)) z pre.length
 have e : (⟨#[z]⟩ : Str) = T [z] := rfl
 rw [e] at h
 have hc : (T (pre ++ l)).cps.toList = pre ++ l := ze9 _
 rw [hc] at h
 have hl : (T (pre ++ l)).length = pre.length + l.length := by rw [zb3, List.length_append]
 have hz : (T [z]).length = 1 := zb3 _
 have hg : (pre ++ l)[pre.length]? = l.head? := by
  rw [List.getElem?_append_right (Nat.le_refl _), Nat.sub_self]; cases l <;> rfl
 rw [hg, hl, hz] at h
 constructor
 ·intro hs
  by_cases hl0 : l = []
  ·subst hl0
   exfalso
   unfold subAt at hs
   simp [T, Str.length] at hs
  ·have : 1 <= l.length := by cases l with | nil => exact absurd rfl hl0 | cons _ _ => simp
   exact h.mp ⟨by lia, hs⟩
 ·intro hs
  exact (h.mpr hs).2
theorem zej (z : Nat) (n : Nat) : ∀ (l pre : List Nat) (free : Nat) (acc : Array Nat), free <= pre.length ->
  (forIn (List.range' pre.length (l.length + 1)) (acc, free) (occBody (T (pre ++ l)) (T [z]) (pre.length + l.length) n)).run.fst.toList = acc.toList ++ (posL z pre.length l).take (n - acc.size)
 | [], pre, free, acc, hf => by
  rw [List.length_nil, Nat.zero_add, List.range'_succ, List.range'_zero, List.forIn_cons]
  unfold occBody
  rw [if_neg (by rintro ⟨⟨_, h⟩, _⟩; rw [zb3] at h; simp at h; lia)]
  show acc.toList = _
  simp [posL]
 | x :: l, pre, free, acc, hf => by
  rw [List.length_cons, List.range'_succ, List.forIn_cons]
  have hs := zk9 pre (x :: l) z
  have e2 : pre ++ x :: l = (pre ++ [x]) ++ l := by simp
  have e3 : pre.length + (l.length + 1) = (pre ++ [x]).length + l.length := by simp; lia
  have e4 : pre.length + 1 = (pre ++ [x]).length := by simp
  have hz : (T [z]).length = 1 := zb3 _
  conv => lhs; unfold occBody
  by_cases hx : x = z
  ·have hs' : subAt (T (pre ++ x :: l)) (T [z]) pre.length = true := by rw [hs]; simp [hx]
   by_cases hn : acc.size < n
   ·rw [if_pos ⟨⟨⟨hn, hf⟩, by rw [hz]; lia⟩, hs'⟩]
    show (forIn (List.range' (pre.length + 1) (l.length + 1)) (acc.push pre.length, pre.length + (T [z]).length) (occBody (T (pre ++ x :: l)) (T [z]) (pre.length + (l.length + 1)) n)).run.fst.toList = _
    rw [e2, e3, e4, zej z n l (pre ++ [x]) _ _ (by rw [hz]; simp)]
    rw [posL, if_pos hx, Array.toList_push, Array.size_push, <- e4]
    rw [show n - acc.size = (n - (acc.size + 1)) + 1 by lia, List.take_succ_cons, List.append_assoc]
    rfl
   ·rw [if_neg (by rintro ⟨⟨⟨h, _⟩, _⟩, _⟩; exact hn h)]
    show (forIn (List.range' (pre.length + 1) (l.length + 1)) (acc, free) (occBody (T (pre ++ x :: l)) (T [z]) (pre.length + (l.length + 1)) n)).run.fst.toList = _
    rw [e2, e3, e4, zej z n l (pre ++ [x]) _ _ (by simp; lia), show n - acc.size = 0 by lia]
    simp
  ·have hs' : ¬ subAt (T (pre ++ x :: l)) (T [z]) pre.length = true := by rw [hs]; simp [hx]
   rw [if_neg (by rintro ⟨_, h⟩; exact hs' h)]
   show (forIn (List.range' (pre.length + 1) (l.length + 1)) (acc, free) (occBody (T (pre ++ x :: l)) (T [z]) (pre.length + (l.length + 1)) n)).run.fst.toList = _
   rw [e2, e3, e4, zej z n l (pre ++ [x]) _ _ (by simp; lia), posL, if_neg hx, <- e4]
theorem zm7 (z n : Nat) (l : List Nat) : occurrences (T l) (T [z]) 0 (T l).length n = (posL z 0 l).take n := by
 rw [occ_eq, zb3]
 have := zej z n l [] 0 #[] (Nat.le_refl _)
 simpa using this
noncomputable def za8 (z : Nat) : Nat -> List Nat -> List (List Nat)
 | 0, l => [l]
 | n + 1, l => match l.dropWhile (· != z) with
  | [] => [l]
  | _ :: b => l.takeWhile (· != z) :: za8 z n b
noncomputable def zio (s : Str) : Nat -> List Nat -> List Str
 | a, [] => [strSub s a s.length]
 | a, p :: r => strSub s a p :: zio s (p + 1) r
theorem zfj (s : Str) : ∀ (ps : List Nat) (a : Nat), (((a :: ps.map (· + 1)).zip (ps ++ [s.length])).map fun (i, j) => strSub s i j) = zio s a ps
 | [], a => rfl
 | p :: r, a => by
  show strSub s a p :: _ = strSub s a p :: _
  rw [<- zfj s r (p + 1)]
  rfl
theorem zfr (a b c : List Nat) : strSub (T (a ++ b ++ c)) a.length (a.length + b.length) = T b := by
 unfold strSub T
 congr 1
 apply Array.toList_inj.mp
 simp [List.take_append]
theorem zir {z : Nat} : ∀ {l : List Nat} (a : Nat), z ∉ l -> posL z a l = []
 | [], _, _ => rfl
 | x :: l, a, h => by
  rw [posL, if_neg (fun e => h (by simp [e])), zir _ fun h' => h (List.mem_cons_of_mem _ h')]
theorem zjt {z : Nat} : ∀ (l b : List Nat) (a : Nat), z ∉ l -> posL z a (l ++ z :: b) = (a + l.length) :: posL z (a + l.length + 1) b
 | [], b, a, _ => by simp [posL]
 | x :: l, b, a, h => by
  rw [List.cons_append, posL, if_neg (fun e => h (by simp [e])), zjt l b (a + 1) fun h' => h (List.mem_cons_of_mem _ h')]
  rw [List.length_cons, show a + 1 + l.length = a + (l.length + 1) by lia]
theorem zcd {z : Nat} : ∀ l : List Nat, (l.dropWhile (· != z) = [] /\ z ∉ l) \/ ∃ b, l.dropWhile (· != z) = z :: b /\ l = l.takeWhile (· != z) ++ z :: b /\ z ∉ l.takeWhile (· != z)
 | [] => .inl ⟨rfl, by simp⟩
 | x :: l => by
  by_cases hx : x = z
  ·subst hx; exact .inr ⟨l, by simp, by simp, by simp⟩
  ·have e1 : (x :: l).dropWhile (· != z) = l.dropWhile (· != z) := by simp [List.dropWhile_cons, hx]
   have e2 : (x :: l).takeWhile (· != z) = x :: l.takeWhile (· != z) := by simp [List.takeWhile_cons, hx]
   rw [e1, e2]
   rcases zcd (z:=z) l with ⟨h1, h2⟩ | ⟨b, h1, h2, h3⟩
   ·exact .inl ⟨h1, by simp [h2]; exact fun e => hx e.symm⟩
   ·refine .inr ⟨b, h1, by rw [List.cons_append, <- h2], ?_⟩
    simp only [List.mem_cons, not_or]
    exact ⟨fun e => hx e.symm, h3⟩
theorem zfh (z : Nat) : ∀ (n : Nat) (pre l : List Nat), zio (T (pre ++ l)) pre.length ((posL z pre.length l).take n) = (za8 z n l).map T
 | 0, pre, l => by
  have := zfr pre l []
  rw [List.append_nil] at this
  show [strSub (T (pre ++ l)) pre.length (T (pre ++ l)).length] = [T l]
  rw [zb3, List.length_append, this]
 | n + 1, pre, l => by
  rcases zcd (z:=z) l with ⟨h1, h2⟩ | ⟨b, h1, h2, h3⟩
  ·rw [zir _ h2, za8, h1]
   have := zfr pre l []
   rw [List.append_nil] at this
   show [strSub (T (pre ++ l)) pre.length (T (pre ++ l)).length] = [T l]
   rw [zb3, List.length_append, this]
  ·have e : za8 z (n + 1) l = l.takeWhile (· != z) :: za8 z n b := by rw [za8, h1]
   rw [e]
   generalize l.takeWhile (· != z) = a at h2 h3
   subst h2
   rw [zjt _ _ _ h3, List.take_succ_cons]
   show strSub _ pre.length (pre.length + a.length) :: zio _ (pre.length + a.length + 1) _ = T a :: (za8 z n b).map T
   have e1 := zfr pre a (z :: b)
   rw [List.append_assoc] at e1
   rw [e1]
   congr 1
   have := zfh z n (pre ++ a ++ [z]) b
   have e2 : pre ++ a ++ [z] ++ b = pre ++ (a ++ z :: b) := by simp
   have e3 : (pre ++ a ++ [z]).length = pre.length + a.length + 1 := by simp; lia
   rw [e2, e3] at this
   exact this
theorem zhr (z n : Nat) (l : List Nat) : partsBetween (T l) (occurrences (T l) (T [z]) 0 (T l).length n) (T [z]).length = (za8 z n l).map T := by
 have e := zfj (T l) ((posL z 0 l).take n) 0
 have h := zfh z n [] l
 rw [zm7, zb3]
 unfold partsBetween
 exact e.trans h
theorem zd0 (z : Nat) : ∀ n l, (za8 z n l).length <= n + 1
 | 0, l => Nat.le_refl _
 | n + 1, l => by
  unfold za8
  split
  ·simp
  ·rw [List.length_cons]; have := zd0 z n ‹_›; lia
end L2
namespace L2
open PySem PySem.W PySem.Spec PyProof.Rows PySem.Builtin PySem.Builtin.Str
theorem zmi {l : List Nat} (h : ∀ c ∈ l, c < 128) : PySem.Builtin.Str.strKind (T l) = 1 := by
 unfold PySem.Builtin.Str.strKind
 rw [if_pos]
 rw [Array.all_eq_true_iff_forall_mem]
 intro c hc
 have : c ∈ l := by simpa [T] using hc
 have := h c this
 simp; lia
theorem zgt {z c : Nat} : ∀ {n : Nat} {l p : List Nat}, p ∈ za8 z n l -> c ∈ p -> c ∈ l
 | 0, l, p, h, hc => by rw [za8, List.mem_singleton] at h; subst h; exact hc
 | n + 1, l, p, h, hc => by
  rcases zcd (z:=z) l with ⟨h1, h2⟩ | ⟨b, h1, h2, h3⟩
  ·rw [za8, h1] at h
   have h : p ∈ [l] := h
   rw [List.mem_singleton] at h; subst h; exact hc
  ·rw [za8, h1] at h
   have h : p ∈ l.takeWhile (· != z) :: za8 z n b := h
   rw [h2]
   rcases List.mem_cons.mp h with h | h
   ·subst h; exact List.mem_append_left _ hc
   ·exact List.mem_append_right _ (List.mem_cons_of_mem _ (zgt h hc))
section
variable {K : PySem.W.Frag} {G H₀ L : Hp} {ss : List Sl} {ta tb tc t1 t2 te : TE} {ds : List D}
theorem zph {H : Hp} : ∀ {ls : List (List Nat)}, (∀ l ∈ ls, ∀ c ∈ l, c < 128) -> Reps K H (ls.map D.str) ((ls.map T).map V.str)
 | [], _ => Reps.nil
 | l :: ls, h => Reps.cons (Rep.str (h l List.mem_cons_self)) (zph fun m hm => h m (List.mem_cons_of_mem _ hm))
end
end L2
namespace L2
open PySem PySem.W PySem.Spec PyProof.Rows
noncomputable def SpG {α : Type} (K : PySem.W.Frag) (pre : α -> List D -> Prop) (res : α -> D) : Sp := fun vs H Q _ => ∃ (G : Hp) (ds : List D) (x : α), Same G H /\ Reps K G ds vs /\ pre x ds /\ ∀ v G' H', Ext G H G' H' -> Rep K G' (res x) v -> Q v H'
section
variable {α : Type} {K : PySem.W.Frag} {H : Hp} {vs : List V} {Q : VK} {X : XK} {N : List Str} {t : TS} {pre : α -> List D -> Prop} {res : α -> D}
theorem zhe (h : SpG K pre res vs H Q X) (hN : vs.length <= N.length) (body : ∀ G ds x, pre x ds -> RtD K G H Q (res x) -> Go K G H G { nx := fun _ H' => Q .non H', rt := Q } (slots N.length ds) t) : t { nx := fun _ H' => Q .non H', rt := Q } (start N vs) H := by
 obtain ⟨G, ds, x, sm, r, hp, q⟩ := h
 exact body G ds x hp (fun v F H' e r => q v F H' e r) G H _ (zb4 sm r hN)
theorem zcb {n : Nat} (hpre : ∀ x ds, pre x ds -> ds.length = n) (h : SpG K pre res vs H Q X) : vs.length = n := by
 obtain ⟨G, ds, x, sm, r, hp, q⟩ := h
 rw [<- r.length]; exact hpre x ds hp
end
section
variable {α : Type} {K : PySem.W.Frag} {G H₀ L : Hp} {ss : List Sl} {ta tb tc te : TE} {t : TA} {ds : List D} {E : XK} {pre : α -> List D -> Prop} {res : α -> D}
theorem zci (x : α) (a : EvAF K G H₀ L ss t ds) (hp : pre x ds) : Ev K G H₀ L ss (zia (SpG K pre res) [] E t) (res x) := fun F H σ Q S q =>
 a F H σ _ S fun vs F1 H1 e1 r1 => ⟨F1, ds, x, e1.fh, by rw [List.append_nil]; exact r1, hp, fun v G' H' e2 r => q _ _ _ (e1.trans e2) r⟩
theorem zpm {c : Nat} {l : List Nat} (a : EvB K G H₀ L ss ta (.str [c])) (b : EvB K G H₀ L ss tb (.str l)) : Ev K G H₀ L ss (tOp (fun x y H Q => ∃ i j, x = .str i /\ y = .str j /\ Q (.bl (!(Builtin.Str.occurrences j i 0 j.length 1).isEmpty)) H) ta tb) (.bl (decide (c ∈ l))) := fun F H σ Q S q =>
 a F H σ _ S fun v F1 H1 e1 r1 => b F1 H1 σ _ (S.ext2 e1) fun v2 F2 H2 e2 r2 => by
  rw [r1.of_str, r2.of_str]
  refine ⟨T [c], T l, rfl, rfl, ?_⟩
  have := StrLaws.found_one (T l) c
  rw [ze9] at this
  rw [show T [c] = ⟨#[c]⟩ from rfl, this]
  exact q _ F2 H2 (e1.trans e2) Rep.bl
end
section
variable {K : PySem.W.Frag} {G H₀ L : Hp} {ss : List Sl}
theorem zk7 (l : List Nat) (f : Nat -> D) {tl : TE} {g : TG} {te : TE} {nt : Nat} {cs : List Nat} (a : EvB K G H₀ L ss tl (.str l)) (hk : GK nt g) (hc : cs.Nodup) (hz : l.length < sizeLine)
  (hs : ∀ c ∈ l, ∃ ss', Tg K G H₀ L g (.str [c]) (lcSl nt cs ss) ss' /\ Ev K G H₀ L ss' te (f c)) :
  EvO K G H₀ L ss (tLC nt cs (iStr tl) g zjj te) (l.map f) := by
 have := zfo (p:=fun _ => true) (f:=fun i => f (l.getD i 0)) (tt:=zjj) (te:=te) (zmw a) hk hc hz (fun i hi => by
  have hm : l.getD i 0 ∈ l := by rw [List.getD_eq_getElem?_getD, List.getElem?_eq_getElem hi]; exact List.getElem_mem hi
  obtain ⟨ss', h1, h2⟩ := hs _ hm
  exact ⟨ss', h1, ziu, fun _ => h2⟩)
 have e := zii l 0 (fun _ => true) f
 rw [show l.filter (fun _ => true) = l from List.filter_eq_self.mpr (by simp)] at e
 rw [<- e]; exact this
end
end L2
namespace L2
open PySem PySem.W PySem.Spec PyProof.Rows
noncomputable def D.isK : D -> Bool
 | .int _ => true | .str _ => true | _ => false
noncomputable def D.key : D -> Key
 | .int i => .inl i | .str l => .inr (T l) | _ => .inl 0
noncomputable abbrev DD := List (D × D)
inductive Dks (K : PySem.W.Frag) (F : Hp) : DD -> List (Key × V) -> Prop
 | nil : Dks K F [] []
 | cons {k d : D} {v : V} {kvs : DD} {xs : List (Key × V)} (hk : k.isK = true) (hr : Rep K F k (kV k.key)) (r : Rep K F d v) (t : Dks K F kvs xs) : Dks K F ((k, d) :: kvs) ((k.key, v) :: xs)
end L2
namespace L2
open PySem PySem.Spec PyProof.Rows
end L2
namespace L2
open PySem PySem.W PySem.Spec PyProof.Rows
noncomputable abbrev KQ := List (D × Addr × List D)
end L2
namespace L2
open PySem PySem.Spec PyProof.Rows
end L2
namespace L2
open PySem PySem.W PySem.Spec PyProof.Rows
end L2
namespace L2
open PySem PySem.Spec PyProof.Rows
noncomputable def Itz (K : PySem.W.Frag) (a b : Addr) : It :=
  ⟨fun i H => ∃ xs ys x y, SqL K H a xs /\ SqL K H b ys /\ xs[i]? = some x /\ ys[i]? = some y,
   fun i H x H' => ∃ T0 vs, x = .ref T0 /\ H T0 = none /\ H' = upd H T0 (.tup vs) /\ ∀ xs ys, SqL K H a xs -> SqL K H b ys -> ∃ u v, xs[i]? = some u /\ ys[i]? = some v /\ vs = [u, v],
   fun i H => ∃ xs ys, SqL K H a xs /\ SqL K H b ys /\ min xs.length ys.length = i⟩
theorem zle {P : Program} {w : World} {K : PySem.W.Frag} {elts : List Expr} {kk : Nat} {tp : Pos} (z TI TO i1 i2 a b : Addr) (D0 : ZipApart z TI TO i1 i2 a b) :
  Turn P w K (.Tuple elts kk tp) (Itz K a b) [z, TI, TO, i1, i2] z (fun i h => IsZip h z TI TO .none /\ IsPair h TI (.ref i1) (.ref i2) /\ (∃ c d, IsPair h TO c d) /\ h.IsListIter i1 a i /\ h.IsListIter i2 b i) where
 mem := by simp
 obj := fun i h st c hc => by
  obtain ⟨s1, s2, ⟨c1, d1, s3⟩, ⟨o4, s4, _, e4⟩, ⟨o5, s5, _, e5⟩⟩ := st
  simp only [List.mem_cons, List.not_mem_nil, or_false] at hc
  rcases hc with rfl | rfl | rfl | rfl | rfl
  ·exact ⟨_, s1, fun v q => by cases q⟩
  ·exact ⟨_, s2, fun v q => by cases q⟩
  ·exact ⟨_, s3, fun v q => by cases q⟩
  ·exact ⟨o4, s4, fun v q => by rw [e4] at q; cases q⟩
  ·exact ⟨o5, s5, fun v q => by rw [e5] at q; cases q⟩
 keep := fun i h h' st k => by
  obtain ⟨s1, s2, ⟨c1, d1, s3⟩, s4, s5⟩ := st
  exact ⟨k z (by simp) _ s1, k TI (by simp) _ s2, ⟨c1, d1, k TO (by simp) _ s3⟩, s4.at fun o x => k i1 (by simp) o x, s5.at fun o x => k i2 (by simp) o x⟩
 item := by
  intro X hP hw hK hc i pins s σ H E I hf st hg
  subst hP hw hK
  obtain ⟨xs, ys, x, y, hq, hr, hx, hy⟩ := hg
  obtain ⟨its, rv, p, hz⟩ := I.list hq
  obtain ⟨jts, rv2, p2, hz2⟩ := I.list hr
  obtain ⟨u, hu, ru⟩ := rv.get hx
  obtain ⟨u2, hu2, ru2⟩ := rv2.get hy
  have hil : i < its.length := (List.getElem?_eq_some_iff.mp hu).1
  have hil2 : i < jts.length := (List.getElem?_eq_some_iff.mp hu2).1
  have W0 := WalksT.zip2 (prog:=X.prog) (w:=X.w) (A:=X.A) (show X.A.handled = none from I.ok.hd hc) z TI TO i1 i2 a b D0 its.toArray jts.toArray
  obtain ⟨s1, s2, s3, s4, s5⟩ := st
  refine W0.item i s _ _ (by simp; lia) ⟨s1, s2, s3, s4, s5, p.isList, p2.isList⟩ fun T0 vals h1 tk hp hle ht mid kk => ?_
  obtain ⟨v, v2, hv, hv2, rfl⟩ := hp
  have hv : its[i]? = some v := by simpa using hv
  have hv2 : jts[i]? = some v2 := by simpa using hv2
  rw [hu] at hv; cases hv
  rw [hu2] at hv2; cases hv2
  have fresh : H T0 = none := I.hok.fresh hle
  have hfw : ∀ c ∈ [z, TO, i1, i2], FpOk X pins H c := fun c hc => hf c (by simp only [List.mem_cons, List.not_mem_nil, or_false] at hc ⊢; rcases hc with h | h | h | h <;> simp [h])
  have I1 : Inv X pins σ (upd H T0 (.tup [x, y])) { s with heap := h1, toks := tk } := I.turnsT (wr:=[z, TO, i1, i2]) hfw kk hle ht (.cons ru (.cons ru2 .nil)) (by rw [sizeLine_eq]; simp)
  refine ⟨.ref T0, rfl, W0.go elts _ tp i T0 _ _ _ mid fun h2 st2 k2 => ?_⟩
  have hlt : ∀ c ∈ [z, TI, TO, i1, i2], c ≠ T0 := fun c hc q => by
   have old : ∃ o, s.heap.get? c = some o := by
    obtain ⟨c1, d1, s3⟩ := s3
    obtain ⟨o4, s4, _⟩ := s4
    obtain ⟨o5, s5, _⟩ := s5
    simp only [List.mem_cons, List.not_mem_nil, or_false] at hc
    rcases hc with rfl | rfl | rfl | rfl | rfl
    ·exact ⟨_, s1⟩
    ·exact ⟨_, s2⟩
    ·exact ⟨_, s3⟩
    ·exact ⟨_, s4⟩
    ·exact ⟨_, s5⟩
   obtain ⟨o, ho⟩ := old
   exact absurd (Nat.lt_of_lt_of_le (Heap.lt_size ho) (q ▸ hle)) (Nat.lt_irrefl _)
  have hf1 : ∀ c ∈ [z, TO, i1, i2], FpOk X pins (upd H T0 (.tup [x, y])) c := fun c hc => ⟨by rw [zam (hlt c (by simp only [List.mem_cons, List.not_mem_nil, or_false] at hc ⊢; rcases hc with h | h | h | h <;> simp [h]))]; exact (hfw c hc).1, (hfw c hc).2⟩
  exact ⟨.ref T0, _, I1.turns (t':=tk) hf1 k2, rfl, ⟨T0, _, rfl, fresh, rfl, fun ys1 ys2 g1 g2 => ⟨x, y, by rw [I.list_inj g1 hq]; exact hx, by rw [I.list_inj g2 hr]; exact hy, rfl⟩⟩, ⟨st2.1, st2.2.1, st2.2.2.1, st2.2.2.2.1, st2.2.2.2.2.1⟩, fun c hc => by rw [zam (hlt c hc)]; exact (hf c hc).1⟩
 done := by
  intro X hP hw hK hc i pins s σ H E I hf st hg
  subst hP hw hK
  obtain ⟨xs, ys, hq, hr, hx⟩ := hg
  obtain ⟨its, rv, p, hz⟩ := I.list hq
  obtain ⟨jts, rv2, p2, hz2⟩ := I.list hr
  have hl := rv.length
  have hl2 := rv2.length
  have W0 := WalksT.zip2 (prog:=X.prog) (w:=X.w) (A:=X.A) (show X.A.handled = none from I.ok.hd hc) z TI TO i1 i2 a b D0 its.toArray jts.toArray
  have hs : min its.toArray.size jts.toArray.size = i := by simp; lia
  rw [hs] at W0
  obtain ⟨s1, s2, s3, s4, s5⟩ := st
  have hfw : ∀ c ∈ [z, TO, i1, i2], FpOk X pins H c := fun c hc => hf c (by simp only [List.mem_cons, List.not_mem_nil, or_false] at hc ⊢; rcases hc with h | h | h | h <;> simp [h])
  exact W0.done s _ _ ⟨s1, s2, s3, s4, s5, p.isList, p2.isList⟩ fun h1 tk kk => ⟨rfl, I.turns (wr:=[z, TO, i1, i2]) hfw kk⟩
 self := fun A i s Q E st h => wpAny_pyIter_zip st.1 h
section
variable {X : Cx} {e : Expr} {ta : TA} {elts : List Expr} {kk : Nat} {tp p pos : Pos}
noncomputable def iZip (K : PySem.W.Frag) (ta : TA) : TI := fun σ H R => ta σ H fun vs H1 => ∃ a b, vs = [.ref a, .ref b] /\ (∃ xs, SqL K H1 a xs) /\ (∃ ys, SqL K H1 b ys) /\ R (Itz K a b) H1
theorem zid {e2 : Expr} (hg : Gl X "zip") (hm : X.mg "zip" = none) (hA : PA X [e, e2] ta) (hs : starEach [e, e2] X.env = (false, eval e X.env) :: starEach [e2] X.env := by rfl) (hp : (backTo pos (starEach [e2] X.env)).any (·.1) = false := by rfl) :
  PI X (.Tuple elts kk tp) (.Call (.Name "zip" p) [e, e2] [] pos) (iZip X.K ta) := by
 intro pins s σ H R I h
 refine Call_ (zfk I hg hm PyProof.Rows.Boot.zip (PyProof.Rows.callWith_type1 (thn (hA pos pins s σ H _ I h) fun us s1 hz9 => ?_) hs hp))
 obtain ⟨vs, H1, I1, r1, q1⟩ := hz9
 obtain ⟨a, b, rfl, ⟨xs, hq⟩, ⟨ys, hr⟩, q⟩ := q1
 obtain ⟨u, u2, rfl, ru, ru2⟩ := zhz r1
 cases ru
 cases ru2
 obtain ⟨its, rv, p, hz⟩ := I1.list hq
 obtain ⟨jts, rv2, p2, hz2⟩ := I1.list hr
 refine call_zip_2 p.isList p2.isList fun h1 hzp hTI hTO hi1 hi2 hsz hk => ?_
 have I2 : Inv X pins σ H1 { s1 with heap := h1 } := I1.kept (t':=s1.toks) hk
 refine wpAny_pyIter_zip hzp ?_
 have hlt : a < s1.heap.objs.size := by obtain ⟨o, ho, _⟩ := p.isList; exact Heap.lt_size ho
 have hlt2 : b < s1.heap.objs.size := by obtain ⟨o, ho, _⟩ := p2.isList; exact Heap.lt_size ho
 have ap := zipApart_new hlt hlt2
 refine ⟨s1.heap.objs.size + 4, [s1.heap.objs.size + 4, s1.heap.objs.size + 2, s1.heap.objs.size + 3, s1.heap.objs.size, s1.heap.objs.size + 1], _, _, H1, rfl, I2, zle _ _ _ _ _ a b ap, ⟨hzp, hTI, ⟨_, _, hTO⟩, hi1, hi2⟩, fun c hc => ?_, q⟩
 have hcs : s1.heap.objs.size <= c := by
  simp only [List.mem_cons, List.not_mem_nil, or_false] at hc
  rcases hc with rfl | rfl | rfl | rfl | rfl <;> first | exact Nat.le_refl _ | exact Nat.le_add_right _ _
 exact I1.fpOk hcs (I1.hok.fresh hcs)
theorem zjh {body : List Stmt} {h₀ : ExceptHandler} {hs : List ExceptHandler} {t : TS} (hx : X.xe = fun _ _ => False) (hb : PSs X body t) : PS X (.Try body (h₀ :: hs) [] [] pos) t := by
 intro pins s σ H D I h
 refine wpAny_Try_except (wpAny_mono (hb pins s σ H D I h) (fun f s1 q => ?_) fun e s1 z => ?_)
 ·cases f with
  | next => exact wpAny_execs_nil q
  | _ => exact q
 ·rw [hx] at z; exact z.elim
end
end L2
namespace L2
open PySem PySem.Spec PyProof.Rows
open AutoSeq1 (wpAny_loadPart')
theorem zfe (a b : Value) : checkTypeCall "enumerate" ⟨[a], [("start", b)]⟩ = pure () := by kernel_rfl
theorem zfw (a b : Value) : checkBuiltinCall "enumerate.__new__" ⟨[.type "enumerate", a], [("start", b)]⟩ = pure () := by kernel_rfl
theorem zhy (l : Addr) (items : Array Value) (n : Nat) (dct : Option Addr) (sl : Array (Option Value)) (t : Tok) :
  Meets (Builtin.«enumerate.__new__» ⟨[.type "enumerate", .ref l], [("start", .int 1 t)]⟩) (fun _ R s => s.heap.get? l = some { cls := .type "list", dict := dct, data := .seq items n, slots := sl } /\
   R (.ok (.ret (.ref (s.heap.push { cls := .type "list_iterator", data := .fields #[.ref l, .int 0 0] }).objs.size)))
    { s with heap := (s.heap.push { cls := .type "list_iterator", data := .fields #[.ref l, .int 0 0] }).push { cls := .type "enumerate", data := .fields #[.none, .bool false, .ref s.heap.objs.size, rawInt 1, .none, .none] } }) :=
 .of_wp fun prog w A R s h => by
  obtain ⟨hp, g, d, tk, os⟩ := s
  obtain ⟨hl, h⟩ := h
  have hsub := sub_enumerate; have hL : Heap.IsList (Shared.heap ⟨hp, g, d, tk, os⟩) l items := ⟨_, hl, rfl, n, rfl⟩
  wp_walk using wpAny_loadPart' hl
  refine wpAny_stack_any fun st => wpAny_pure ?_
  split
  ·rename_i c _ _ _ _ _
   cases (c == Value.type "enumerate") <;> (wp_walk using wpAny_loadPart' hl, wpAny_pyIter_list hL; exact ⟨_, rfl, h⟩)
  ·wp_walk using wpAny_loadPart' hl, wpAny_pyIter_list hL
   exact ⟨_, rfl, h⟩
noncomputable abbrev zja (h : Heap) (l : Addr) : Heap := (h.push { cls := .type "list_iterator", data := .fields #[.ref l, .int 0 0] }).push { cls := .type "enumerate", data := .fields #[.none, .bool false, .ref h.objs.size, rawInt 1, .none, .none] }
theorem ze7 (a b c : Value) : argsOk "object.__init__" ⟨[a, b], [("start", c)]⟩ := by unfold argsOk; kernel_rfl
theorem zi9 (obj a c : Value) : Meets (Builtin.«object.__init__» ⟨[obj, a], [("start", c)]⟩) (fun _ R s => s.TypeIs obj "enumerate" /\ R (.ok (.ret .none)) s) := by
 refine Meets.of_wp fun prog w A R s hs => ?_
 obtain ⟨hT, hq⟩ := hs
 have hl := F.called_enumerate.init.lookup; have hm := F.called_enumerate.made
 have hne : (some "enumerate.__new__" != some "object.__new__") = true := by decide
 repeat (any_goals (first | assumption | wp_step))
 exact ⟨_, rfl, hq⟩
section
variable {prog : Program} {w : World} {A : Around} {E : Value -> Shared -> Prop} {s : Shared}
theorem zk3 {l : Addr} {items : Array Value} {t : Tok} {Q : Value -> Shared -> Prop} (hL : s.heap.IsList l items)
  (h : ∀ h', IsEnum h' (s.heap.objs.size + 1) s.heap.objs.size 1 .none -> h'.IsListIter s.heap.objs.size l 0 -> h'.objs.size = s.heap.objs.size + 2 ->
   (∀ b o, s.heap.get? b = some o -> h'.get? b = some o) -> Q (.ref (s.heap.objs.size + 1)) { s with heap := h' }) :
  wpAny (model prog w) A (call (.type "enumerate") [.ref l] [("start", .int 1 t)]) Q E s := by
 obtain ⟨⟨c, dct, dt, sl⟩, hl, hc, n, hd⟩ := hL
 replace hc : c = .type "list" := hc; replace hd : dt = .seq items n := hd
 subst hc hd
 have ft := F.called_enumerate
 obtain ⟨c, tl, hmro⟩ := ft.mro
 have hmade := ft.made; have hsub := ft.sub; have hct := zfe (.ref l) (.int 1 t)
 refine wpAny_call (codeAny_of_tree ?_)
 show wpAny _ _ (callAny (.type "enumerate") _) _ _ _
 refine wpAny_pure ⟨Code.quiet_builtin _ (by decide +kernel), codeAny_builtin F.entry_type_call ?_⟩
 rw [Around.under_plain (weight_type_call_type "enumerate" [.ref l] _) (units_type_call_type "enumerate" [.ref l] _)]
 have h1 := ft.notType; have h2 := ft.canCreate
 repeat (any_goals (first | assumption | wp_step))
 have hz : (s.heap.push { cls := .type "list_iterator", data := .fields #[.ref l, .int 0 0] }).objs.size = s.heap.objs.size + 1 := Heap.size_push ..
 have he : IsEnum ((s.heap.push { cls := .type "list_iterator", data := .fields #[.ref l, .int 0 0] }).push
   { cls := .type "enumerate", data := .fields #[.none, .bool false, .ref s.heap.objs.size, rawInt 1, .none, .none] }) (s.heap.objs.size + 1) s.heap.objs.size 1 .none := by
  have := Heap.get?_push_size (s.heap.push { cls := .type "list_iterator", data := .fields #[.ref l, .int 0 0] })
   (o:={ cls := .type "enumerate", data := .fields #[.none, .bool false, .ref s.heap.objs.size, rawInt 1, .none, .none] }) rfl
  rw [hz] at this; exact this
 have hu := h _ he ⟨_, Heap.get?_push_of_some _ (Heap.get?_push_size _ rfl), rfl, rfl⟩ (by rw [Heap.size_push, hz]) fun b o x => Heap.get?_push_of_some _ (Heap.get?_push_of_some _ x)
 have hT : Shared.TypeIs { s with heap := zja s.heap l } (.ref (s.heap.objs.size + 1)) "enumerate" := ⟨_, he, rfl⟩
 have hm := zhy l items n dct sl t prog w A.in1 (fun r s' => r = .ok (.ret (.ref (s.heap.objs.size + 1))) /\ s' = { s with heap := zja s.heap l }) s ⟨hl, by rw [hz], rfl⟩
 refine codeAny_mono (codeAny_call_builtin (R:=fun r s' => r = .ok (.ret (.ref (s.heap.objs.size + 1))) /\ s' = { s with heap := zja s.heap l }) ft.plain F.entry_enumerate_new (wpAny_of_eq (zfw _ _) hm)) fun r s₁ hr => ?_
 obtain ⟨rfl, rfl⟩ := hr
 have hli := ft.init.lookup; have hbi := ft.init.bind (.ref (s.heap.objs.size + 1))
 show wpAny _ _ _ _ _ _
 repeat (any_goals (first | assumption | wp_step))
 have hm2 := zi9 (.ref (s.heap.objs.size + 1)) (.ref l) (.int 1 t) prog w A.in1 (fun r s' => r = .ok (.ret .none) /\ s' = { s with heap := zja s.heap l }) { s with heap := zja s.heap l } ⟨hT, rfl, rfl⟩
 refine codeAny_mono (codeAny_call_builtin (R:=fun r s' => r = .ok (.ret .none) /\ s' = { s with heap := zja s.heap l }) ft.init.plain F.entry_object_init (ft.init.check _ _ _ _ _ _ _ _ hT (ze7 _ _ _) hm2)) fun r₂ s₂ hr₂ => ?_
 obtain ⟨rfl, rfl⟩ := hr₂
 show wpAny _ _ _ _ _ _
 repeat (any_goals (first | assumption | wp_step))
end
end L2
namespace L2
open PySem PySem.Spec PyProof.Rows
theorem ze2 {prog : Program} {w : World} {A : Around} {it : Addr} {fp : List Addr} {n : Nat} {P : Nat -> Value -> Prop} {St : Nat -> Heap -> Prop} (D : Draws prog w A it fp n P St) :
  Draws prog w A it fp (n + 1) (fun i v => P (i - 1) v) (fun i h => 1 <= i /\ St (i - 1) h) where
 live := fun i h st => D.live _ _ st.2
 frame := fun i h h' st k => ⟨st.1, D.frame _ _ _ st.2 k⟩
 item := fun i s Q E hi st hQ => D.item (i - 1) s Q E (by omega) st.2 fun x h' tk a b c => hQ x h' tk a ⟨by lia, by rw [show i + 1 - 1 = (i - 1) + 1 by lia]; exact b⟩ c
 done := fun s Q E st hE => D.done s Q E (by simpa using st.2) hE
noncomputable def Ite1 (K : PySem.W.Frag) (a : Addr) : It :=
 ⟨fun i H => ∃ xs x, SqL K H a xs /\ xs[i]? = some x, fun i H x H' => ∃ T0 vs, x = .ref T0 /\ H T0 = none /\ H' = upd H T0 (.tup vs) /\ ∀ xs, SqL K H a xs -> ∃ y, xs[i]? = some y /\ vs = [.int ((i + 1 : Nat) : Int), y], fun i H => ∃ xs, SqL K H a xs /\ xs.length = i⟩
theorem zji {P : Program} {w : World} {K : PySem.W.Frag} {elts : List Expr} {kk : Nat} {tp : Pos} (a it e : Addr) (hae : a ≠ e) (hai : a ≠ it) (hei : e ≠ it) :
  Turn P w K (.Tuple elts kk tp) (Ite1 K a) [e, it] e (fun i h => (∃ old, IsEnum h e it ((i + 1 : Nat) : Int) old) /\ h.IsListIter it a i) where
 mem := by simp
 obj := fun i h st b hb => by
  obtain ⟨⟨old, ho⟩, oi, hoi, _, hdi⟩ := st
  rcases List.mem_cons.mp hb with rfl | hb
  ·exact ⟨_, ho, fun v z => by cases z⟩
  ·rw [List.mem_singleton.mp hb]
   exact ⟨oi, hoi, fun v z => by rw [hdi] at z; cases z⟩
 keep := fun i h h' st k => ⟨let ⟨old, ho⟩ := st.1; ⟨old, k e (by simp) _ ho⟩, st.2.at fun o x => k it (by simp) o x⟩
 item := by
  intro X hP hw hK hc i pins s σ H E I hf st hg
  subst hP hw hK
  obtain ⟨xs, x, hq, hx⟩ := hg
  obtain ⟨its, rv, p, hz⟩ := I.list hq
  obtain ⟨u, hu, ru⟩ := rv.get hx
  have hil : i < its.length := (List.getElem?_eq_some_iff.mp hu).1
  have W0 := WalksT.enumerateD (A:=X.A) (ze2 (Draws.list (prog:=X.prog) (w:=X.w) (A:=X.A.in1) (show X.A.in1.handled = none from I.ok.hd hc) it a hai its.toArray)) e hei (by simp [hei, Ne.symm hae]) (by simp)
  refine W0.item (i + 1) s _ _ (by simpa using hil) ⟨st.1, Nat.le_add_left _ _, st.2, p.isList⟩ fun T0 vals h1 tk hp hle ht mid kk => ?_
  obtain ⟨t, v, hv, rfl⟩ := hp
  have hv : its[i]? = some v := by simpa using hv
  rw [hu] at hv; cases hv
  have fresh : H T0 = none := I.hok.fresh hle
  have I1 : Inv X pins σ (upd H T0 (.tup [.int ((i + 1 : Nat) : Int), x])) { s with heap := h1, toks := tk } := I.turnsT (wr:=[e, it]) hf kk hle ht (.cons ⟨t, rfl⟩ (.cons ru .nil)) (by rw [sizeLine_eq]; simp)
  refine ⟨.ref T0, rfl, W0.go elts _ tp (i + 1) T0 _ _ _ mid fun h2 st2 k2 => ?_⟩
  have hlt : ∀ b ∈ [e, it], b ≠ T0 := fun b hb z => by
   obtain ⟨⟨old, ho⟩, oi, hoi, _, hdi⟩ := st
   rcases List.mem_cons.mp hb with rfl | hb
   ·exact absurd (Nat.lt_of_lt_of_le (Heap.lt_size ho) (z ▸ hle)) (Nat.lt_irrefl _)
   ·rw [List.mem_singleton.mp hb] at z
    exact absurd (Nat.lt_of_lt_of_le (Heap.lt_size hoi) (z ▸ hle)) (Nat.lt_irrefl _)
  have hf1 : ∀ b ∈ [e, it], FpOk X pins (upd H T0 (.tup [.int ((i + 1 : Nat) : Int), x])) b := fun b hb => ⟨by rw [zam (hlt b hb)]; exact (hf b hb).1, (hf b hb).2⟩
  exact ⟨.ref T0, _, I1.turns (t':=tk) hf1 k2, rfl, ⟨T0, _, rfl, fresh, rfl, fun ys hy => ⟨x, by rw [I.list_inj hy hq]; exact hx, rfl⟩⟩, ⟨st2.1, st2.2.2.1⟩, fun b hb => by rw [zam (hlt b hb)]; exact (hf b hb).1⟩
 done := by
  intro X hP hw hK hc i pins s σ H E I hf st hg
  subst hP hw hK
  obtain ⟨xs, hq, hx⟩ := hg
  obtain ⟨its, rv, p, hz⟩ := I.list hq
  have hl := rv.length
  have hs : its.toArray.size = i := by simp; lia
  have W0 := WalksT.enumerateD (A:=X.A) (ze2 (Draws.list (prog:=X.prog) (w:=X.w) (A:=X.A.in1) (show X.A.in1.handled = none from I.ok.hd hc) it a hai its.toArray)) e hei (by simp [hei, Ne.symm hae]) (by simp)
  rw [hs] at W0
  exact W0.done s _ _ ⟨st.1, Nat.le_add_left _ _, st.2, p.isList⟩ fun h1 tk kk => ⟨rfl, I.turns (wr:=[e, it]) hf kk⟩
 self := fun A i s Q E st h => wpAny_pyIter_enum st.1.choose_spec h
section
variable {M : Model} {A : Around} {E : Value -> Shared -> Prop} {s : Shared} {env : Env}
theorem zev {pos : Pos} {T : String} {e : Expr} {rest : List Expr} {kws : List Keyword} {Q : Value -> Shared -> Prop}
  (h : wpAny M A (spliced (backTo pos (starEach (e :: rest) env))) (fun vs s₁ => wpAny M A (evalAll ((backToKw pos (keywordEach kws env)).map (·.2)))
   (fun kvs s₂ => wpAny M A (call (.type T) vs (((backToKw pos (keywordEach kws env)).filterMap (·.1)).zip kvs)) Q E s₂) E s₁) E s)
  (he : backTo pos (starEach (e :: rest) env) = (false, eval e env) :: backTo pos (starEach rest env)) (hplain : (backTo pos (starEach (e :: rest) env)).any (·.1) = false)
  (hall : (backToKw pos (keywordEach kws env)).all (·.1.isSome) = true) (hkw : (backToKw pos (keywordEach kws env)).any (·.1.isNone) = false) :
  wpAny M A (callWith pos (.type T) [] (backTo pos (starEach (e :: rest) env)) (backToKw pos (keywordEach kws env))) Q E s := by
 have h2 : wpAny M A (evalArgs (.type T) true (backTo pos (starEach (e :: rest) env)) (backToKw pos (keywordEach kws env))) (fun a s₁ => wpAny M A (call (.type T) ([] ++ a.pos) a.kw) Q E s₁) E s := by
  rw [he] at h ⊢
  exact evalArgs_kwB hall h
 unfold callWith
 refine wpAny_bind (wpAny_holding (wpAny_mono h2 (fun a s₁ h₁ => wpAny_bind (wpAny_standAt ?_)) fun _ _ x => x))
 simp only [hplain, hkw, Bool.or_false]; refine wpAny_bind (wpAny_pure ?_)
 exact wpAny_bind (wpAny_mono h₁ (fun r s₂ hr => wpAny_bind (wpAny_holding (wpAny_point (wpAny_pure hr)))) fun _ _ x => x)
end
section
variable {X : Cx} {e ke : Expr} {ta : TA} {elts : List Expr} {kk : Nat} {tp p pos kp : Pos}
noncomputable def iEn1 (K : PySem.W.Frag) (ta : TA) : TI := fun σ H R => ta σ H fun vs H1 => ∃ a, vs = [.ref a] /\ (∃ xs, SqL K H1 a xs) /\ R (Ite1 K a) H1
theorem zll (hg : Gl X "enumerate") (hm : X.mg "enumerate" = none) (hA : PA X [e] ta) (hk : PE X ke (tC (.int 1))) (hs : starEach [e] X.env = [(false, eval e X.env)] := by rfl) :
  PI X (.Tuple elts kk tp) (.Call (.Name "enumerate" p) [e] [⟨some "start", ke, kp⟩] pos) (iEn1 X.K ta) := by
 intro pins s σ H R I h
 refine wpAny_Call_Name_kw (zfk I hg hm boot_enumerate ?_)
 refine zev (rest:=[]) (thn (hA pos pins s σ H _ I h) fun us s1 hz9 => ?_) (by rw [hs]; rfl) (by rw [hs]; rfl) rfl rfl
 obtain ⟨vs, H1, I1, r1, q1⟩ := hz9
 obtain ⟨a, rfl, hl, q⟩ := q1
 refine thn (znj hk zo7 pos pins s1 σ H1 (fun zs H2 => zs = [.int 1] /\ H2 = H1) I1 ⟨rfl, rfl⟩) fun ws s2 hz9 => ?_
 obtain ⟨zs, H2, I2, r2, e2, e3⟩ := hz9
 subst e2 e3
 obtain ⟨w', rfl, rw'⟩ := zho r2
 obtain ⟨t, rfl⟩ := rw'
 obtain ⟨u, rfl, ru⟩ := zho r1
 cases ru
 obtain ⟨xs, hq⟩ := hl
 obtain ⟨its, rv, p, hz⟩ := I2.list hq
 refine zk3 p.isList fun h1 hen hit hsz hk => ?_
 have I3 : Inv X pins σ H2 { s2 with heap := h1 } := I2.kept (t':=s2.toks) hk
 refine wpAny_pyIter_enum hen ?_
 have hlt : a < s2.heap.objs.size := by obtain ⟨o, ho, _⟩ := p.isList; exact Heap.lt_size ho
 refine ⟨s2.heap.objs.size + 1, [s2.heap.objs.size + 1, s2.heap.objs.size], _, _, H2, rfl, I3, zji a s2.heap.objs.size (s2.heap.objs.size + 1) (Nat.ne_of_lt (Nat.lt_succ_of_lt hlt)) (Nat.ne_of_lt hlt) (Nat.succ_ne_self _), ⟨⟨_, hen⟩, hit⟩, fun b hb => ?_, q⟩
 rcases List.mem_cons.mp hb with rfl | hb
 ·exact I2.fpOk (Nat.le_succ _) (I2.hok.fresh (Nat.le_succ _))
 ·rw [List.mem_singleton.mp hb]
  exact I2.fpOk (Nat.le_refl _) (I2.hok.fresh (Nat.le_refl _))
end
end L2
namespace L2
open PySem PySem.Spec PyProof.Rows PySem.Builtin PySem.Builtin.Str
section
variable {X : Cx}
noncomputable def zie : V -> List V -> Hp -> VK -> Prop := fun x vs H Q => ∃ (l : List Nat) (z : Nat), x = .str (T l) /\ vs = [.str (T [z])] /\ Q (.bl (decide (l.head? = some z))) H
theorem zln (l : List Nat) (z : Nat) : Txt.startswith (T l) (T [z]) = decide (l.head? = some z) := by
 have h := zk9 [] l z
 rw [List.nil_append, List.length_nil] at h
 unfold Txt.startswith
 rw [h, zb3, zb3]
 cases l with
 | nil => rfl
 | cons x l => simp
theorem zfq : MtR X "str.startswith" zie := by
 intro pins s σ H x xs v us Q I rx rs h
 obtain ⟨l, z, rfl, rfl, q⟩ := h
 obtain ⟨t, rfl⟩ := rx
 obtain ⟨u, rfl, ru⟩ := Vals.one rs
 obtain ⟨u, rfl⟩ := ru
 refine SC.startswith ⟨.bl (decide (l.head? = some z)), H, I, ?_, q⟩
 rw [zln]; rfl
end
noncomputable def zb8 (z : Nat) (l : List Nat) : List (List Nat) := za8 z (l.length + 1) l
theorem zl6 {z : Nat} {l : List Nat} (hz : z < 128) (hl : ∀ c ∈ l, c < 128) : Txt.split (T l) (T [z]) = (zb8 z l).map T := by
 have hp := zhr z (l.length + 1) l
 have k1 : strKind (T l) = 1 := zmi hl
 have k2 : strKind (T [z]) = 1 := zmi (by intro c hc; rw [List.mem_singleton.mp hc]; exact hz)
 unfold Txt.split zb8
 rw [zb3] at hp ⊢
 split
 ·rename_i h
  rw [k1, k2, zb3] at h
  simp at h
  subst h
  rfl
 ·split
  ·rename_i h2 h
   rw [<- hp]
   have e : occurrences (T l) (T [z]) 0 l.length (l.length + 1) = [] := List.isEmpty_iff.mp h
   rw [e]
   have := zfr [] l []
   simp only [List.nil_append, List.append_nil, List.length_nil, Nat.zero_add] at this
   show [T l] = [strSub (T l) 0 (T l).length]
   rw [zb3, this]
  ·exact hp
theorem zje {z n : Nat} : ∀ {l : List Nat}, z ∉ l -> za8 z n l = [l] := fun {l} h => by
 cases n with
 | zero => rfl
 | succ n =>
  rcases zcd (z:=z) l with ⟨h1, _⟩ | ⟨b, _, h2, _⟩
  ·rw [za8, h1]
  ·exact absurd (by rw [h2]; simp) h
theorem zh4 {z n : Nat} {a b : List Nat} (ha : z ∉ a) : za8 z (n + 1) (a ++ z :: b) = a :: za8 z n b := by
 have tw : (a ++ z :: b).dropWhile (· != z) = z :: b /\ (a ++ z :: b).takeWhile (· != z) = a := by
  induction a with
  | nil => simp
  | cons w x ih =>
   have hw : w ≠ z := fun e => ha (by simp [e])
   have := ih fun h => ha (List.mem_cons_of_mem _ h)
   rw [List.cons_append, List.dropWhile_cons, List.takeWhile_cons]
   simp [hw, this]
 rw [za8, tw.1, tw.2]
theorem zdt {z : Nat} : ∀ {ps : List (List Nat)} {n : Nat}, ps ≠ [] -> (∀ p ∈ ps, z ∉ p) -> ps.length <= n + 1 -> za8 z n (glue [z] ps) = ps
 | [], _, h, _, _ => absurd rfl h
 | [p], n, _, hz, _ => by
  have : glue [z] [p] = p := rfl
  rw [this]; exact zje (hz p (by simp))
 | p :: q :: r, 0, _, _, hn => by simp at hn
 | p :: q :: r, n + 1, _, hz, hn => by
  have : glue [z] (p :: q :: r) = p ++ z :: glue [z] (q :: r) := by simp [glue]
  rw [this, zh4 (hz p (by simp)), zdt (by simp) (fun x hx => hz x (List.mem_cons_of_mem _ hx)) (by simpa using hn)]
section
variable {K : PySem.W.Frag} {G H₀ L : Hp} {ss : List Sl} {ta tb tc t t1 t2 te : TE} {ds : List D} {E : Ends}
theorem zjo {l : List Nat} {z : Nat} (a : EvB K G H₀ L ss ta (.str l)) (b : EvB K G H₀ L ss t (.str [z])) : Ev K G H₀ L ss (tBM K "str" zie ta (zbn t tNil)) (.bl (decide (l.head? = some z))) := fun F H σ Q S q =>
 a F H σ _ S fun v F1 H1 e1 r1 => by
  rw [r1.of_str]
  refine ⟨rfl, b F1 H1 σ _ (S.ext2 e1) fun v2 F2 H2 e2 r2 => ?_⟩
  exact ⟨l, z, rfl, by rw [r2.of_str], q _ _ _ (e1.trans e2) Rep.bl⟩
theorem zfg {l : List Nat} {z : Nat} (a : EvB K G H₀ L ss ta (.str l)) (b : EvB K G H₀ L ss t (.str [z])) (hl : l.length + 2 <= sizeLine) : EvO K G H₀ L ss (tBM K "str" zmg ta (zbn t tNil)) ((zb8 z l).map D.str) := fun F H σ Q S q =>
 a F H σ _ S fun v F1 H1 e1 r1 => by
  rw [r1.of_str]
  refine ⟨rfl, b F1 H1 σ _ (S.ext2 e1) fun v2 F2 H2 e2 r2 => ?_⟩
  have ha := r1.asc
  have hz := r2.asc
  rw [r2.of_str]
  refine ⟨T l, T [z], rfl, rfl, by rw [zb3]; rfl, by rw [zb3]; exact hl, fun p hp => ?_⟩
  rw [zl6 (hz z (by simp)) ha]
  have e := e1.trans e2
  exact q p _ F2 _ (e.newO hp) (e.hh.free hp) (e.fh.free hp) zal (zph fun m hm c hc => ha c (zgt hm hc))
theorem zkr {tl : TE} (a : Ev K G H₀ L ss tl (.lst ds)) : EvI K G H₀ L ss (iEn1 K (zbn tl tNil)) ds.length fun i => .tup [.int ((i + 1 : Nat) : Int), ds.getD i .non] := fun F H σ R S q =>
 a F H σ _ S fun v F1 H1 e1 r1 => by
  obtain ⟨p, vs, rfl, sq, rs⟩ := r1.of_lst
  refine ⟨p, rfl, ⟨vs, SqL.same e1.fh sq⟩, q F1 H1 _ e1 fun F2 H2 f1 h1 fh => ?_⟩
  have rp : Rep K F2 (.lst ds) (.ref p) := r1.mono f1
  obtain ⟨ws, sq2, rs2⟩ := rp.itl fh
  have hlen := rs2.length
  refine ⟨fun i hi => ⟨⟨ws, ws[i]'(by lia), sq2, List.getElem?_eq_getElem _⟩, fun x H3 y => ?_⟩, ⟨ws, sq2, by lia⟩⟩
  obtain ⟨T0, us, rfl, hf, rfl, y⟩ := y
  obtain ⟨w, hx, rfl⟩ := y ws sq2
  obtain ⟨dx, hdx, rx⟩ := rs2.get hx
  have e3 : Ext F2 H2 (upd F2 T0 (.tup [.int ((i + 1 : Nat) : Int), w])) (upd H2 T0 (.tup [.int ((i + 1 : Nat) : Int), w])) := (Ext.refl fh).newF hf
  refine ⟨_, e3, ?_⟩
  show Rep K _ (.tup [.int ((i + 1 : Nat) : Int), ds.getD i .non]) _
  rw [List.getD_eq_getElem?_getD, hdx]
  exact Rep.tup (SqT.of zal) (Reps.cons Rep.int (Reps.cons (rx.mono e3.gf) Reps.nil))
end
noncomputable def SpGO {α : Type} (K : PySem.W.Frag) (pre : α -> List D -> Prop) (res : α -> List D) : Sp := fun vs H Q _ => ∃ (G : Hp) (ds : List D) (x : α), Same G H /\ Reps K G ds vs /\ pre x ds /\
 ∀ p ws G' H', Ext G H G' H' -> H p = none -> G' p = none -> H' p = some (.lst ws) -> Reps K G' (res x) ws -> Q (.ref p) H'
section
variable {α : Type} {K : PySem.W.Frag} {H : Hp} {vs : List V} {Q : VK} {X : XK} {N : List Str} {t : TS} {pre : α -> List D -> Prop} {res : α -> List D}
theorem zkb (h : SpGO K pre res vs H Q X) (hN : vs.length <= N.length) (body : ∀ G ds x, pre x ds -> RtO K G H Q (res x) -> Go K G H G { nx := fun _ H' => Q .non H', rt := Q } (slots N.length ds) t) : t { nx := fun _ H' => Q .non H', rt := Q } (start N vs) H := by
 obtain ⟨G, ds, x, sm, r, hp, q⟩ := h
 exact body G ds x hp (fun p ws F H' e h1 h2 h3 h4 => q p ws F H' e h1 h2 h3 h4) G H _ (zb4 sm r hN)
theorem zei {n : Nat} (hpre : ∀ x ds, pre x ds -> ds.length = n) (h : SpGO K pre res vs H Q X) : vs.length = n := by
 obtain ⟨G, ds, x, sm, r, hp, q⟩ := h
 rw [<- r.length]; exact hpre x ds hp
end
section
variable {α : Type} {K : PySem.W.Frag} {G H₀ L : Hp} {ss : List Sl} {t : TA} {ds : List D} {E : XK} {pre : α -> List D -> Prop} {res : α -> List D}
theorem zfl (x : α) (a : EvAF K G H₀ L ss t ds) (hp : pre x ds) : EvO K G H₀ L ss (zia (SpGO K pre res) [] E t) (res x) := fun F H σ Q S q =>
 a F H σ _ S fun vs F1 H1 e1 r1 => ⟨F1, ds, x, e1.fh, by rw [List.append_nil]; exact r1, hp, fun p ws G' H' e2 h1 h2 h3 r => q _ _ _ _ (e1.trans e2) (e1.hh.free h1) h2 h3 r⟩
end
end L2
namespace L2
open PySem PySem.W PySem.Spec PyProof.Rows
structure ITell (K : PySem.W.Frag) (C : Addr) : Prop where
 ha : findIn K (.ref C) "__class__" = some (some (.builtin "object.__class__"))
 hn : specialIn K (.builtin "object.__class__") "__get__" = some (some (.builtin "getset_descriptor.__get__"))
 tk : takesIn K (.builtin "object.__class__") = some true
 hm : mroIn K C (.type "object") = some true
noncomputable def rIsI (K : PySem.W.Frag) : List V -> Hp -> VK -> Prop := fun xs H Q => ∃ x C dx fs c b, H x = some (.ins C dx fs) /\ Cls K C /\ ITell K C /\ ((∃ D, xs = [.ref x, .ref D] /\ c = Value.ref D) \/ (∃ T, xs = [.ref x, .ty T] /\ c = Value.type T)) /\ kitOne K (.ref C) c = some b /\ Q (.bl b) H
section
variable {X : Cx}
theorem zcy : zb2 X (.builtin "isinstance") (rIsI X.K) := by
 intro pins s σ H xs us Q I r h
 obtain ⟨x, C, dx, fs, c, b, hx, cl, T, hc, hk, q⟩ := h
 obtain ⟨u, v, rfl, hu, hv⟩ : ∃ u v, us = [u, v] /\ u = .ref x /\ v = c := by
  rcases hc with ⟨D, rfl, rfl⟩ | ⟨T', rfl, rfl⟩
  ·obtain ⟨u, v, rfl, ru, rv⟩ := zhz r
   exact ⟨u, v, rfl, ru, rv⟩
  ·obtain ⟨u, v, rfl, ru, rv⟩ := zhz r
   exact ⟨u, v, rfl, ru, rv⟩
 subst hu hv
 exact zjn (x:=.ref x) I rfl (.ins hx cl T.ha T.hn T.tk T.hm) hk fun tk => ⟨.bl b, H, I.tok _, rfl, q⟩
end
noncomputable def isl (x C dx : Addr) (fs : List (Str × V)) : Sl := .g (.ref x) [] fun F _ => F x = some (.ins C dx fs) /\ F dx = some (.own x)
theorem zlb (x C dx : Addr) (fs : List (Str × V)) : Stab [] fun F _ => F x = some (.ins C dx fs) /\ F dx = some (.own x) := fun F1 H1 F2 H2 sf _ h => ⟨sf _ _ h.1, sf _ _ h.2⟩
noncomputable def SpI (K : PySem.W.Frag) (C : Addr) (pre : List (Str × V) -> List D -> Prop) (res : List (Str × V) -> List D -> D) : Sp := fun vs H Q _ => ∃ G ds x dx fs ws, Same G H /\ vs = .ref x :: ws /\ G x = some (.ins C dx fs) /\ G dx = some (.own x) /\ Reps K G ds ws /\ pre fs ds /\
 ∀ v G' H', Ext G H G' H' -> Rep K G' (res fs ds) v -> Q v H'
noncomputable def zdp (C : Addr) (n1 n2 : Str) : Sp := fun vs H Q _ => ∃ (x dx : Addr) (u v : V), vs = [.ref x, u, v] /\ H x = some (.ins C dx []) /\ H dx = some (.own x) /\ Q .non (upd H x (.ins C dx [(n1, u), (n2, v)]))
section
variable {K : PySem.W.Frag} {G H₀ L F H : Hp} {ss : List Sl} {σ : St} {x C dx : Addr} {fs : List (Str × V)} {ds : List D} {ws : List V}
theorem Sat.cons0 {s : Sl} {ov : Option V} (S : Sat K G H₀ L F H σ ss) (h : SlOk K H₀ F H ov s) (ha : s.ads = []) : Sat K G H₀ L F H (ov :: σ) (s :: ss) := by
 refine ⟨S.ext, S.fl, by simp [S.len], fun i t ht => ?_, fun i t ht => ?_, fun i j t u hij ht hu p hp hq => ?_⟩
 ·cases i with
  | zero => cases ht; exact h
  | succ i => exact S.ok i t ht
 ·cases i with
  | zero => cases ht; rw [ha]; exact List.nodup_nil
  | succ i => exact S.nd i t ht
 ·cases i with
  | zero => cases ht; rw [ha] at hp; cases hp
  | succ i =>
   cases j with
   | zero => cases hu; rw [ha] at hq; cases hq
   | succ j => exact S.ne i j t u (by lia) ht hu p hp hq
theorem zjc {N : List Str} (sm : Same G H) (gx : G x = some (.ins C dx fs)) (gd : G dx = some (.own x)) (r : Reps K G ds ws) (hN : ws.length + 1 <= N.length) : Sat K G H G G H (start N (.ref x :: ws)) (isl x C dx fs :: slots (N.length - 1) ds) := by
 cases N with
 | nil => simp at hN
 | cons n N =>
  have S := zb4 (N:=N) sm r (by simpa using hN)
  have e : start (n :: N) (.ref x :: ws) = some (.ref x) :: start N ws := by
   unfold start; simp
  rw [e]
  have e2 : (n :: N).length - 1 = N.length := by simp
  rw [e2]
  exact S.cons0 ⟨rfl, (fun a ha => absurd ha List.not_mem_nil), ⟨gx, gd⟩, zlb x C dx fs⟩ rfl
variable {vs : List V} {Q : VK} {E : XK} {N : List Str} {t : TS} {pre : List (Str × V) -> List D -> Prop} {res : List (Str × V) -> List D -> D}
theorem zca {n : Nat} (hpre : ∀ fs ds, pre fs ds -> ds.length + 1 = n) (h : SpI K C pre res vs H Q E) : vs.length = n := by
 obtain ⟨G, ds, x, dx, fs, ws, sm, rfl, gx, gd, r, hp, q⟩ := h
 rw [List.length_cons, <- r.length]; exact hpre fs ds hp
theorem zgg (h : SpI K C pre res vs H Q E) (hN : vs.length <= N.length) (body : ∀ G ds x dx fs, pre fs ds -> RtD K G H Q (res fs ds) -> Go K G H G { nx := fun _ H' => Q .non H', rt := Q } (isl x C dx fs :: slots (N.length - 1) ds) t) :
  t { nx := fun _ H' => Q .non H', rt := Q } (start N vs) H := by
 obtain ⟨G, ds, x, dx, fs, ws, sm, rfl, gx, gd, r, hp, q⟩ := h
 exact body G ds x dx fs hp (fun v F H' e r => q v F H' e r) G H _ (zjc sm gx gd r (by simpa using hN))
end
section
variable {K : PySem.W.Frag} {G H₀ L : Hp} {ss : List Sl} {i : Nat} {x C dx : Addr} {fs : List (Str × V)} {d : D} {ds : List D} {t : TA} {E : XK} {D0 : Ends} {pre : List (Str × V) -> List D -> Prop} {res : List (Str × V) -> List D -> D}
theorem upd2 {H : Hp} {a : Addr} {o u : HO} : upd (upd H a o) a u = upd H a u := by
 funext b
 by_cases h : b = a
 ·subst h; rw [zal, zal]
 ·rw [zam h, zam h, zam h]
end
end L2
namespace L2
open PySem PySem.W PySem.Spec PyProof.Rows
end L2
namespace L2
open PySem PySem.Spec PyProof.Rows
end L2
namespace L2
open PySem PySem.W PySem.Spec PyProof.Rows
end L2
namespace L2
open PySem PySem.W PySem.Spec PyProof.Rows
end L2
namespace L2
open PySem PySem.W PySem.Spec PyProof.Rows PySem.Calls Builtin Builtin.ObjectAttr Builtin.Getset_descriptor
structure XTell (K : PySem.W.Frag) (C : Addr) : Prop where
 ga : findIn K (.ref C) "__getattribute__" = some (some (.builtin "BaseException.__getattribute__"))
 gt : findIn K (.ref C) "__getattr__" = some none
 mb : mroIn K C (.type "BaseException") = some true
 fc : findIn K (.ref C) "__class__" = some (some (.builtin "object.__class__"))
 sp : specialIn K (.builtin "object.__class__") "__get__" = some (some (.builtin "getset_descriptor.__get__"))
 tk : takesIn K (.builtin "object.__class__") = some true
 mo : mroIn K C (.type "object") = some true
 dc : hasDictIn K C = true
end L2
namespace L2
open PySem PySem.W PyProof.Rows
end L2
namespace L2
open PySem PySem.W PyProof.Rows
end L2
namespace L2
open PySem PySem.W PySem.Spec PyProof.Rows
noncomputable abbrev QS := List (Addr × List D)
section
variable {K : PySem.W.Frag} {G H₀ L : Hp} {ss : List Sl} {i : Nat} {p : Addr} {kqs : KQ} {kvs : DD} {qs : QS} {E : Ends} {D0 : XK} {t : TA} {te ta td : TE} {d : D} {ds : List D} {dss : List (List D)} {pre : List D -> Prop} {res : List D -> List (List D)}
mutual
noncomputable def D.nm : D -> Bool
 | .lst _ => false
 | .dct ks vs => D.nms ks && D.nms vs
 | .dctT _ _ => false
 | .ins _ _ _ => false
 | .tup a => D.nms a
 | _ => true
noncomputable def D.nms : List D -> Bool
 | [] => true
 | a :: x => a.nm && D.nms x
end
noncomputable def cut (F : Hp) (as : List Addr) : Hp := fun b => if b ∈ as then none else F b
end
end L2
namespace L2
open PySem PySem.W PySem.Spec PyProof.Rows
end L2
namespace L2
open PySem PySem.Spec PyProof.Rows
end L2
namespace L2
open PySem PySem.W PySem.Spec PyProof.Rows
end L2
namespace L2
open PySem PySem.W PySem.Spec PyProof.Rows
structure CMeth (K : PySem.W.Frag) (C : Addr) (m : Str) (f : Addr) : Prop where
 ga : specialIn K (.ref C) "__getattribute__" = some (some (.builtin "type.__getattribute__"))
 rd : readsIn K C (.type "type") = true
 fc : findCls K (.ref C) (.type "type") m = some (.val (.ref f))
 kp : keepIn K (.ref f) = true
section
variable {X : Cx} {CX : CXT} {C f : Addr} {m x : Str} {k : Nat} {fd : FuncData} {ps : List Str} {sp : Sp} {ds : List Value} {dvs : List V} {E : XK} {e : Expr} {es : List Expr} {t : TA} {p apos pos : Pos}
theorem zjb {pl : Sem Bool} (hg : Gl X x) (hm : X.mg x = some (.ref C)) (M : CMeth X.K C m f) (F : FnOk X.prog X.w X.K X.mg X.base CX k f fd ps sp) (hr : Room k X.A) (hb : zbp X.K fd ps ds) (hd : Vals dvs ds) (hx : zey CX X E) (ha : PA X (e :: es) t)
  (hdb : (x == ("__debug__" : Str)) = false := by decide) (hst : starEach (e :: es) X.env = (false, eval e X.env) :: starEach es X.env := by rfl) (hpl : (backTo pos (starEach es X.env)).any (·.1) = false := by rfl)
  (ht : eval (.Call (.Attribute (.Name x p) m apos) (e :: es) [] pos) X.env = (do
   let ov <- eval (.Name x p) X.env
   standAt apos.atName
   let (f, first) <- holding [ov] (getMethod ov m pl)
   callWith pos f first (backTo pos (starEach (e :: es) X.env)) (backToKw pos (keywordEach [] X.env))) := by rfl) :
  PE X (.Call (.Attribute (.Name x p) m apos) (e :: es) [] pos) (zia sp dvs E t) := by
 intro pins s σ H Q I h
 refine PySem.W.methodCall_KW (pl:=pl) (thn (zb9 (v:=.ref C) hg hm rfl hdb pins s σ H (fun v H1 => v = .ref C /\ H1 = H) I ⟨rfl, rfl⟩) fun u s1 hz9 => ?_) ht
 obtain ⟨v, H1, I1, rx, ev, eh⟩ := hz9
 subst ev eh
 obtain rfl : u = Value.ref C := rx
 refine method_cls I1.kIn M.ga (cls_value I1.kIn M.rd M.fc rfl ?_)
 refine PySem.W.callWith_K (first:=[]) (h₀:=X.base) I.ok.mod.kin M.kp (thn (ha pos pins _ σ _ _ (I1.tok _) h) fun us s2 ⟨vs, H2, I2, r, q2⟩ => ⟨I2.kIn, ?_⟩) hst hpl
 exact zk4 F hr hb hd hx I2 r q2
end
end L2
namespace L2
open PySem PySem.W PySem.Spec PyProof.Rows
noncomputable def zj5 (C : Addr) (n1 n2 : Str) (c : V) : Sp := fun vs H Q _ => ∃ (x dx : Addr) (u : V), vs = [.ref x, u] /\ H x = some (.ins C dx []) /\ H dx = some (.own x) /\ Q .non (upd H x (.ins C dx [(n1, u), (n2, c)]))
end L2
namespace L2
open PySem PySem.W PySem.Spec PyProof.Rows
noncomputable def D.isT : D -> Bool
 | .tup l => l.all D.isK | _ => false
noncomputable def D.tkey : D -> List Key
 | .tup l => l.map D.key | _ => []
inductive Dkt (K : PySem.W.Frag) (F : Hp) : DD -> List (List Key × V) -> Prop
 | nil : Dkt K F [] []
 | cons {k d : D} {v : V} {kvs : DD} {xs : List (List Key × V)} (hk : k.isT = true) (r : Rep K F d v) (t : Dkt K F kvs xs) : Dkt K F ((k, d) :: kvs) ((k.tkey, v) :: xs)
end L2
namespace L2
open PySem PySem.W PySem.Spec PyProof.Rows
noncomputable def MOk (X : Cx) (E : XK) (m : Str) (C : Addr) (sp : Sp) : Prop := ∃ f fd ps k, Cls X.K C /\ Meth X.K C m f /\ FnOk X.prog X.w X.K X.mg X.base CX0 k f fd ps sp /\ Room k X.A /\ zbp X.K fd ps []
noncomputable def MOks (X : Cx) (E : XK) (m : Str) (fam : List (Addr × Sp)) : Prop := ∀ q ∈ fam, MOk X E m q.1 q.2
theorem zm1 {X : Cx} {E : XK} {m : Str} : MOks X E m [] := fun _ h => nomatch h
theorem zdh {X : Cx} {E : XK} {m : Str} {C f : Addr} {sp : Sp} {fd : FuncData} {ps : List Str} {k : Nat} {fam : List (Addr × Sp)} (c : Cls X.K C) (hm : Meth X.K C m f) (F : FnOk X.prog X.w X.K X.mg X.base CX0 k f fd ps sp) (hr : Room k X.A) (hb : zbp X.K fd ps []) (r : MOks X E m fam) :
  MOks X E m ((C, sp) :: fam) := fun q h => by
 rcases List.mem_cons.mp h with rfl | h
 ·exact ⟨f, fd, ps, k, c, hm, F, hr, hb⟩
 ·exact r q h
noncomputable def zj0 (fam : List (Addr × Sp)) (m : Str) (E : XK) (ta : TE) (t : TA) : TE := fun σ H Q => ta σ H fun x H1 => ∃ a C dx fs sp, x = .ref a /\ H1 a = some (.ins C dx fs) /\ (C, sp) ∈ fam /\ fs.lookup m = none /\ t σ H1 fun vs H2 => sp (.ref a :: vs) H2 Q E
section
variable {X : Cx} {E : XK} {m : Str} {apos pos : Pos} {e o : Expr} {es : List Expr} {ta : TE} {t : TA} {fam : List (Addr × Sp)}
theorem zky {pl : Sem Bool} (he : PE X o ta) (M : MOks X E m fam) (hx : zey CX0 X E)
  (ht : eval (.Call (.Attribute o m apos) [] [] pos) X.env = (do
   let ov <- eval o X.env
   standAt apos.atName
   let (f, first) <- holding [ov] (getMethod ov m pl)
   callWith pos f first (backTo pos (starEach [] X.env)) (backToKw pos (keywordEach [] X.env))) := by rfl) :
  PE X (.Call (.Attribute o m apos) [] [] pos) (zj0 fam m E ta tNil) := by
 intro pins s σ H Q I h
 refine PySem.W.methodCall_KW (pl:=pl) (thn (he pins s σ H _ I h) fun u s1 hz9 => ?_) ht
 obtain ⟨x, H1, I1, rx, a, C, dx, fs, sp, ex, ea, hf, l, q⟩ := hz9
 subst ex
 obtain rfl : u = Value.ref a := rx
 obtain ⟨f, fd, ps, k, c, hm, F, hr, hb⟩ := M _ hf
 refine zjd I1 ea c hm l ?_
 exact PySem.W.callWith_K0 (first:=[.ref a]) I1.kIn hm.kp (zk4 (us:=[.ref a]) (vs:=[.ref a]) (dvs:=[]) F hr hb .nil hx I1 (.cons rfl .nil) q)
end
end L2
namespace L2
open PySem PySem.W PySem.Spec PyProof.Rows
section
variable {K : PySem.W.Frag} {G H₀ L : Hp} {ss : List Sl} {i : Nat} {C : Addr} {ta : TE} {t : TA} {E : XK} {D0 : Ends} {c : V} {ns : List Str} {vs ds : List D} {d : D} {pre : List (Str × V) -> List D -> Prop} {res : List (Str × V) -> List D -> D}
theorem zee {n1 n2 : Str} {w : Int} {l : List Nat} (a : EvAF K G H₀ L ss t [.int w, .str l]) : Ev K G H₀ L ss (zn7 C (zdp C n1 n2) [] E t) (.ins C [n1, n2] [.int w, .str l]) := fun F H σ Q S q =>
 a F H σ _ S fun vs F1 H1 e1 r1 => by
  have r0 := r1
  rw [Reps] at r1
  obtain ⟨v1, r, rfl, rv1, r1⟩ := r1
  rw [Reps] at r1
  obtain ⟨v2, r', rfl, rv2, r1⟩ := r1
  rw [Reps] at r1
  subst r1
  intro x dx hx hdx hne
  refine ⟨x, dx, v1, v2, rfl, zal, by rw [zam hne]; exact zal, rfl, ?_⟩
  rw [upd2]
  have e2 := (Ext.refl e1.fh).newF (o:=.own x) hdx
  have hx2 : upd H1 dx (.own x) x = none := by rw [zam (Ne.symm hne)]; exact hx
  have e3 := e2.newF (o:=.ins C dx [(n1, v1), (n2, v2)]) hx2
  exact q _ _ _ (e1.trans e3) (Rep.ins (fs:=[(n1, v1), (n2, v2)]) zal (by rw [zam hne]; exact zal) (r0.mono e3.gf))
theorem zl8 {n1 n2 : Str} {w : Int} {l : List Nat} (hl : ∀ c ∈ l, c < 128) (a : EvAF K G H₀ L ss t [.int w]) : Ev K G H₀ L ss (zn7 C (zj5 C n1 n2 (.str (T l))) [] E t) (.ins C [n1, n2] [.int w, .str l]) := fun F H σ Q S q =>
 a F H σ _ S fun vs F1 H1 e1 r1 => by
  rw [Reps] at r1
  obtain ⟨v1, r, rfl, rv1, r1⟩ := r1
  rw [Reps] at r1
  subst r1
  intro x dx hx hdx hne
  refine ⟨x, dx, v1, rfl, zal, by rw [zam hne]; exact zal, rfl, ?_⟩
  rw [upd2]
  have e2 := (Ext.refl e1.fh).newF (o:=.own x) hdx
  have hx2 : upd H1 dx (.own x) x = none := by rw [zam (Ne.symm hne)]; exact hx
  have e3 := e2.newF (o:=.ins C dx [(n1, v1), (n2, .str (T l))]) hx2
  exact q _ _ _ (e1.trans e3) (Rep.ins (fs:=[(n1, v1), (n2, .str (T l))]) zal (by rw [zam hne]; exact zal) (Reps.cons (rv1.mono e3.gf) (Reps.cons (Rep.str hl) Reps.nil)))
theorem zfz {f : Str} {n1 n2 : Str} {w l : D} (a : Ev K G H₀ L ss ta (.ins C [n1, n2] [w, l])) (cl : Cls K C) (n : zbw K C f) (hf : (f = n1 /\ d = w) \/ ((f == n1) = false /\ f = n2 /\ d = l)) : Ev K G H₀ L ss (tFld K ta f) d := fun F H σ Q S q =>
 a F H σ _ S fun v F1 H1 e1 r1 => by
  obtain ⟨x, dx, fs, rfl, hx, hd, hn, rv⟩ := r1.of_ins
  match fs, hn, rv with
  | [(a1, v1), (a2, v2)], hn, rv =>
   simp only [List.map_cons, List.map_nil, List.cons.injEq, and_true] at hn
   obtain ⟨rfl, rfl⟩ := hn
   rw [List.map_cons, List.map_cons, List.map_nil, Reps] at rv
   obtain ⟨_, _, e, ra, rv⟩ := rv
   cases e
   rw [Reps] at rv
   obtain ⟨_, _, e, rb, rv⟩ := rv
   cases e
   rcases hf with ⟨rfl, rfl⟩ | ⟨hne, rfl, rfl⟩
   ·exact ⟨x, C, dx, _, v1, rfl, e1.fh _ _ hx, cl, n, by simp [List.lookup], q _ F1 H1 e1 ra⟩
   ·exact ⟨x, C, dx, _, v2, rfl, e1.fh _ _ hx, cl, n, by simp only [List.lookup, hne]; simp, q _ F1 H1 e1 rb⟩
  | [], hn, rv => cases hn
  | [_], hn, rv => simp at hn
  | _ :: _ :: _ :: _, hn, rv => simp at hn
theorem zdf {fam : List (Addr × Sp)} {m : Str} {n1 n2 : Str} {w : Int} {l : List Nat} (a : Ev K G H₀ L ss ta (.ins C [n1, n2] [.int w, .str l])) (hm : (C, SpI K C pre res) ∈ fam) (h1 : (m == n1) = false) (h2 : (m == n2) = false) (b : EvAF K G H₀ L ss t ds)
  (hp : pre [(n1, .int w), (n2, .str (T l))] ds) : Ev K G H₀ L ss (zj0 fam m E ta t) (res [(n1, .int w), (n2, .str (T l))] ds) := fun F H σ Q S q =>
 a F H σ _ S fun v F1 H1 e1 r1 => by
  obtain ⟨x, dx, fs, rfl, hx, hd, hn, rv⟩ := r1.of_ins
  match fs, hn, rv with
  | [(a1, v1), (a2, v2)], hn, rv =>
   simp only [List.map_cons, List.map_nil, List.cons.injEq, and_true] at hn
   obtain ⟨rfl, rfl⟩ := hn
   rw [List.map_cons, List.map_cons, List.map_nil, Reps] at rv
   obtain ⟨_, _, e, ra, rv⟩ := rv
   cases e
   rw [Reps] at rv
   obtain ⟨_, _, e, rb, rv⟩ := rv
   cases e
   cases ra.of_int
   cases rb.of_str
   refine ⟨x, C, dx, _, _, rfl, e1.fh _ _ hx, hm, by simp only [List.lookup, h1, h2], ?_⟩
   have S1 := S.ext2 e1
   exact b F1 H1 σ _ S1 fun ws F2 H2 e2 r2 => ⟨F2, ds, x, dx, _, ws, e2.fh, rfl, e2.gf _ _ hx, e2.gf _ _ hd, r2, hp, fun v G' H' e3 r => q v G' H' ((e1.trans e2).trans e3) r⟩
  | [], hn, rv => cases hn
  | [_], hn, rv => simp at hn
  | _ :: _ :: _ :: _, hn, rv => simp at hn
end
end L2
namespace L2
open PySem PySem.W PySem.Spec PyProof.Rows
noncomputable def zkt (xs : List V) (H : Hp) (Q : V -> Hp -> Prop) : Prop := ∃ i : Int, xs = [.int i] /\ i.natAbs.log2 < 1920 /\ Q (.str (Str.ofString (toString i))) H
noncomputable def zl1 (xs : List V) (H : Hp) (Q : V -> Hp -> Prop) : Prop := ∃ (x : Str) (n : Int), xs = [.str x] /\ PySem.intText? x = some n /\ x.length <= 640 /\ Q (.int n) H
section
variable {X : Cx}
theorem ze4 : zb2 X (.type "str") zkt := by
 intro pins s σ H xs us Q I r h
 obtain ⟨i, rfl, hi, q⟩ := h
 obtain ⟨u, rfl, t, rfl⟩ := zho r
 exact P.str_of_int hi ⟨.str _, H, I.tok _, ⟨_, rfl⟩, q⟩
theorem zga : zb2 X (.type "int") zl1 := by
 intro pins s σ H xs us Q I r h
 obtain ⟨x, n, rfl, hn, hl, q⟩ := h
 obtain ⟨u, rfl, t, rfl⟩ := zho r
 exact KIN.call_text hn hl ⟨.int n, H, I.tok _, ⟨_, rfl⟩, q⟩
end
noncomputable def numL (n : Nat) : List Nat := (Nat.toDigits 10 n).map Char.toNat
theorem zkc (n : Nat) : Str.ofString (toString (n : Int)) = T (numL n) := by
 have h := KIN.signs_num n
 have e : ∀ x y : Str, x.cps.toList = y.cps.toList -> x = y := fun x y h => by
  cases x; cases y; congr 1; exact Array.toList_inj.mp h
 exact e _ _ (by rw [h, ze9]; rfl)
theorem zch (n : Nat) : ∀ c ∈ numL n, 48 <= c /\ c <= 57 := fun c hc => by
 obtain ⟨ch, hch, e⟩ := List.mem_map.mp hc
 have r := digit_range (Nat.isDigit_of_mem_toDigits (by decide) (by decide) hch)
 rw [<- e]
 exact r
theorem zi0 (n : Nat) : NumText.digitsVal (numL n) = n := KIN.val_back n
theorem zhl : ∀ n : Nat, 0 < n -> ∃ c r, numL n = c :: r /\ 49 <= c /\ c <= 57 := fun n => by
 induction n using Nat.strongRecOn with
 | _ m ih =>
  intro h0
  by_cases h : m < 10
  ·unfold numL
   rw [Nat.toDigits_of_lt_base h]
   exact ⟨_, [], rfl, (show ∀ k : Nat, k < 10 -> 0 < k -> 49 <= (Nat.digitChar k).toNat /\ (Nat.digitChar k).toNat <= 57 by decide) m h h0⟩
  ·have hm : m % 10 < 10 := Nat.mod_lt m (by decide)
   have t : Nat.toDigits 10 (m / 10) ++ Nat.toDigits 10 (m % 10) = Nat.toDigits 10 (10 * (m / 10) + m % 10) := Nat.toDigits_append_toDigits (by decide) (by omega) hm
   rw [Nat.div_add_mod] at t
   obtain ⟨c, r, e, h1⟩ := ih (m / 10) (by omega) (by omega)
   refine ⟨c, r ++ numL (m % 10), ?_, h1⟩
   show (Nat.toDigits 10 m).map Char.toNat = _
   rw [<- t, List.map_append]
   show numL (m / 10) ++ numL (m % 10) = _
   rw [e]; rfl
theorem zma {n : Nat} (h : n < 10 ^ 10) : (numL n).length <= 10 := by
 have := KT.len_num (n:=(n : Int)) (by omega) (by have : ((10 : Int) ^ 10) = ((10 ^ 10 : Nat) : Int) := rfl; rw [this]; exact Int.ofNat_lt.mpr h)
 rw [zkc, zb3] at this
 exact this
section
variable {K : PySem.W.Frag} {G H₀ L : Hp} {ss : List Sl} {te : TE}
theorem zht {i : Int} (a : EvB K G H₀ L ss te (.int i)) (h0 : 0 <= i) (h1 : i < 10 ^ 10) : Ev K G H₀ L ss (tCB zkt (zbn te tNil)) (.str (numL i.toNat)) := fun F H σ Q S q =>
 a F H σ _ S fun v F1 H1 e1 r1 => ⟨i, by rw [r1.of_int], by
  have hb : i.natAbs < 2 ^ 1920 := by
   have h2 : i.natAbs < 10 ^ 10 := by omega
   exact Nat.lt_of_lt_of_le h2 (Nat.le_trans (show 10 ^ 10 <= 2 ^ 64 by decide) (Nat.pow_le_pow_right (by decide) (by decide)))
  by_cases z : i.natAbs = 0
  ·rw [z]; decide
  ·exact (Nat.log2_lt z).mpr hb, by
  obtain ⟨n, rfl⟩ := Int.eq_ofNat_of_zero_le h0
  rw [zkc]
  exact q _ _ _ e1 (Rep.str fun c hc => by have := (zch n c hc).2; omega)⟩
theorem zks {l : List Nat} (a : EvB K G H₀ L ss te (.str l)) (h : ∀ c ∈ l, 48 <= c /\ c <= 57) (h1 : l ≠ []) (h2 : l.length <= 640) : Ev K G H₀ L ss (tCB zl1 (zbn te tNil)) (.int (NumText.digitsVal l : Nat)) := fun F H σ Q S q =>
 a F H σ _ S fun v F1 H1 e1 r1 => by
  have e := PySem.intText_digits (x:=T l) (by rw [ze9]; exact h) (by rw [ze9]; exact h1) (by rw [zb3]; omega)
  rw [ze9] at e
  exact ⟨T l, _, by rw [r1.of_str], e, by rw [zb3]; exact h2, q _ _ _ e1 Rep.int⟩
end
end L2
namespace L2
open PySem PySem.W PySem.Spec PyProof.Rows
section
variable {K : PySem.W.Frag} {G H₀ L : Hp} {ss : List Sl} {C : Addr} {ta tb : TE} {ns : List Str} {vs : List D} {d : D}
theorem zfi {c : Value} {cv : V} {b : Bool} (a : Ev K G H₀ L ss ta (.ins C ns vs)) (cl : Cls K C) (T : ITell K C) (hc : (∃ D, cv = .ref D /\ c = Value.ref D) \/ (∃ T, cv = .ty T /\ c = Value.type T)) (hk : kitOne K (.ref C) c = some b) :
  Ev K G H₀ L ss (tCB (rIsI K) (zbn ta (zbn (tC cv) tNil))) (.bl b) := fun F H σ Q S q =>
 a F H σ _ S fun v F1 H1 e1 r1 => by
  obtain ⟨x, dx, fs, rfl, hx, hd, hn, rv⟩ := r1.of_ins
  refine ⟨x, C, dx, fs, c, b, e1.fh _ _ hx, cl, T, ?_, hk, q _ _ _ e1 Rep.bl⟩
  rcases hc with ⟨D, rfl, rfl⟩ | ⟨T', rfl, rfl⟩
  ·exact .inl ⟨D, rfl, rfl⟩
  ·exact .inr ⟨T', rfl, rfl⟩
theorem zmj {u : TT} {b : Bool} (a : EvT K G H₀ L ss u b) (h1 : b = true -> Ev K G H₀ L ss ta d) (h2 : b = false -> Ev K G H₀ L ss tb d) : Ev K G H₀ L ss (tIf u ta tb) d := fun F H σ Q S q => a F H σ _ S fun F' H' e => by
 cases b with
 | false => exact iteF (h2 rfl _ _ _ _ (S.ext2 e) fun v F'' H'' e' r => q _ _ _ (e.trans e') r)
 | true => exact iteT (h1 rfl _ _ _ _ (S.ext2 e) fun v F'' H'' e' r => q _ _ _ (e.trans e') r)
end
end L2
namespace L2
open PySem PySem.W PySem.Spec PyProof.Rows
noncomputable def rNeB (K : PySem.W.Frag) : R2 := fun x y H Q => ∃ bs : List Bool, Rep K H (.lst (bs.map D.bl)) x /\ Rep K H (.lst (bs.map D.bl)) y /\ Q (.bl false) H
section
variable {X : Cx}
theorem zgs {h : Heap} {K : PySem.W.Frag} {H : Hp} : ∀ {bs : List Bool} {vs : List V} {us : List Value}, Reps K H (bs.map D.bl) vs -> Vals vs us -> ∃ as, ReadsAll h us (bs.map PyData.bool) as
 | [], _, _, r, q => by
  rw [List.map_nil, Reps] at r; subst r; cases q
  exact ⟨_, ReadsAll.nil⟩
 | b :: bs, _, _, r, q => by
  rw [List.map_cons, Reps] at r
  obtain ⟨x, xs, rfl, r1, r2⟩ := r
  rw [r1.of_bl] at q
  cases q with
  | cons q1 q2 =>
   cases q1
   obtain ⟨as, a⟩ := zgs r2 q2
   exact ⟨_, ReadsAll.cons (Reads.bool b) a⟩
theorem zjr : ∀ bs : List Bool, PyData.canLayAll0 (bs.map PyData.bool) = true
 | [] => rfl
 | b :: bs => by simp [PyData.canLayAll0, PyData.canLay0, zjr bs]
theorem zkn : ∀ bs : List Bool, PyData.eqvAll (bs.map PyData.bool) (bs.map PyData.bool) = true
 | [] => rfl
 | b :: bs => by simp [PyData.eqvAll, PyData.eqv, zkn bs]
theorem zkw : ∀ bs : List Bool, PyData.depthAll (bs.map PyData.bool) <= 1
 | [] => by simp [PyData.depthAll]
 | b :: bs => by have := zkw bs; simp [PyData.depthAll, PyData.depth]; omega
theorem Inv.readsLB {pins : List (Addr × Obj)} {σ : St} {H : Hp} {s : Shared} {bs : List Bool} {v : V} {u : Value} (I : Inv X pins σ H s) (r : Rep X.K H (.lst (bs.map D.bl)) v) (q : RelV v u) : ∃ as, Reads s.heap u (.list (bs.map PyData.bool)) as := by
 obtain ⟨p, xs, rfl, sq, rs⟩ := r.of_lst
 cases q
 obtain ⟨its, rv, ⟨o, n, e, c, _, hd⟩, _⟩ := I.list sq
 obtain ⟨as, ra⟩ := zgs (h:=s.heap) rs rv
 exact ⟨_, Reads.list e c hd (by simpa using ra)⟩
theorem zoa (hu : X.A.units + 64 < cLine) : OpR X (compareOp .NotEq) (rNeB X.K) := by
 intro pins s σ H x y v u Q I rx ry h
 obtain ⟨bs, r1, r2, q⟩ := h
 obtain ⟨as, a⟩ := I.readsLB r1 rx
 obtain ⟨cs, b⟩ := I.readsLB r2 ry
 have hl := zjr bs
 refine SeqAt.compareNe_reads a b (by simpa [PyData.canLay0] using hl) (by simpa [PyData.canLay0] using hl) (by have := zkw bs; simp [PyData.depth]; omega) ?_
 have e : PyData.eqv (.list (bs.map PyData.bool)) (.list (bs.map PyData.bool)) = true := by simp only [PyData.eqv]; exact zkn bs
 rw [e]
 exact ⟨.bl false, H, I, rfl, q⟩
end
section
variable {K : PySem.W.Frag} {G H₀ L : Hp} {ss : List Sl} {ta tb : TE}
theorem zm8 (bs : List Bool) (a : EvB K G H₀ L ss ta (.lst (bs.map D.bl))) (b : EvB K G H₀ L ss tb (.lst (bs.map D.bl))) : Ev K G H₀ L ss (tOp (rNeB K) ta tb) (.bl false) := fun F H σ Q S q =>
 a F H σ _ S fun x F1 H1 e1 r1 => b F1 H1 σ _ (S.ext2 e1) fun y F2 H2 e2 r2 => ⟨bs, r1.mono e2.hh, r2, q _ F2 H2 (e1.trans e2) Rep.bl⟩
theorem zng {E : Ends} {i0 : Nat} {p : Addr} {tm : TE} {g : TG} {tb : TS} {α β : Type} (enc : α -> D) (enc2 : β -> D) (xs : List α) (ys : List β) (I : Nat -> List Sl -> Prop) (b : Ev K G H₀ L ss tm (.lst (ys.map enc2))) (hxy : xs.length = ys.length) (h0 : I 0 ss) (hI : ∀ k ss, I k ss -> ss[i0]? = some (.o p (xs.map enc)))
  (hs : ∀ L' k x y ss, Same L L' -> xs[k]? = some x -> ys[k]? = some y -> I k ss -> ∃ ss', Tg K G H₀ L' g (.tup [enc x, enc2 y]) ss ss' /\ ∀ N, (∀ ss, I (k + 1) ss -> Nx K G H₀ L' N ss) -> Go K G H₀ L' { E with nx := N, ct := N, bk := E.nx } ss' tb)
  (hd : ∀ ss, I xs.length ss -> Nx K G H₀ L E.nx ss) : Go K G H₀ L E ss (tFor (iZip K (zbn (tVar i0) (zbn tm tNil))) g tb) := fun F H σ S => by
 obtain ⟨e, q0, fp, vs, hp, r⟩ := S.getO (hI 0 ss h0)
 refine ⟨.ref p, e, b F H σ _ S fun v2 F1 H1 e1 r2 => ?_⟩
 obtain ⟨p2, vs2, rfl, sqb, rsb⟩ := r2.of_lst
 have S1 := S.ext2 e1
 obtain ⟨_, _, _, vs', hp', _⟩ := S1.getO (hI 0 ss h0)
 refine ⟨p, p2, rfl, ⟨vs', SqL.of hp'⟩, ⟨vs2, SqL.same e1.fh sqb⟩, ?_⟩
 have hLF : Same L F1 := S.fl.trans e1.gf
 refine ⟨fun i m σ' H' => m = xs.length - i /\ i <= xs.length /\ At K G H₀ F1 (I i) σ' H', ⟨_, rfl, Nat.zero_le _, ss, F1, S1.raise, h0⟩, ?_⟩
 rintro i m σ' H' ⟨rfl, hi, ss1, F2, S2, h2⟩
 have rp2 : Rep K F2 (.lst (ys.map enc2)) (.ref p2) := r2.mono S2.fl
 obtain ⟨_, _, _, ws, hq2, rs2⟩ := S2.getO (hI i ss1 h2)
 have sq2 : SqL K H' p ws := SqL.of hq2
 obtain ⟨ws2, sq22, rs22⟩ := rp2.itl S2.ext.fh
 have hlen : ws.length = xs.length := by rw [<- rs2.length, List.length_map]
 have hlen2 : ws2.length = ys.length := by rw [<- rs22.length, List.length_map]
 by_cases hlt : i < xs.length
 ·refine .inr ⟨⟨ws, ws2, ws[i]'(by lia), ws2[i]'(by lia), sq2, sq22, List.getElem?_eq_getElem _, List.getElem?_eq_getElem _⟩, fun σ'' H'' => At K G H₀ F1 (I (i + 1)) σ'' H'', fun σ'' H'' h => ⟨xs.length - (i + 1), by lia, rfl, hlt, h⟩, fun x H'' y => ?_⟩
  obtain ⟨T0, us, rfl, hf, rfl, y⟩ := y
  obtain ⟨w, w2, hx, hx2, rfl⟩ := y ws ws2 sq2 sq22
  obtain ⟨dx, hdx, rx⟩ := rs2.get hx
  obtain ⟨dx2, hdx2, rx2⟩ := rs22.get hx2
  rw [List.getElem?_map, List.getElem?_eq_getElem hlt] at hdx
  rw [List.getElem?_map, List.getElem?_eq_getElem (by lia)] at hdx2
  cases hdx
  cases hdx2
  obtain ⟨ss', tg, go⟩ := hs F1 i _ _ ss1 hLF (List.getElem?_eq_getElem hlt) (List.getElem?_eq_getElem (by lia)) h2
  have e3 : Ext F2 H' (upd F2 T0 (.tup [w, w2])) (upd H' T0 (.tup [w, w2])) := (Ext.refl S2.ext.fh).newF hf
  have rt : Rep K (upd F2 T0 (.tup [w, w2])) (.tup [enc xs[i], enc2 (ys[i]'(by lia))]) (.ref T0) := Rep.tup (SqT.of zal) (Reps.cons (rx.mono e3.gf) (Reps.cons (rx2.mono e3.gf) Reps.nil))
  exact tg _ _ σ' _ _ (S2.ext2 e3) rt fun σ3 S3 => go _ (fun ss h => znz h) _ _ σ3 S3
 ·have e : i = xs.length := by lia
  subst e
  exact .inl ⟨⟨ws, ws2, sq2, sq22, by lia⟩, hd ss1 h2 F2 H' σ' (S2.lower hLF)⟩
end
end L2
namespace L2
open PySem PySem.W PyProof.Rows
end L2
set_option maxHeartbeats 8000000
namespace My
open PySem L2 PyProof.Rows
noncomputable def top (i : Nat) : Stmt := PySem.Challenge.pw_folk_k21_rules_read.main.body.getD i (.Pass ⟨0, 0, 0, 0⟩)
noncomputable abbrev zaw : Stmt := top 6
theorem zel : FnScope ["row"] ["row"] (zac zaw) := ⟨rfl, rfl, rfl, by decide +kernel, rfl, by decide +kernel, by decide +kernel⟩
noncomputable abbrev za5 : Stmt := top 7
theorem zd1 : FnScope ["text", "rows"] ["text"] (zac za5) := ⟨rfl, rfl, rfl, by decide +kernel, rfl, by decide +kernel, by decide +kernel⟩
noncomputable def zh8 (i j : Nat) : Stmt := match top i with
 | .ClassDef _ _ _ b _ _ _ _ _ _ _ => b.getD j (.Pass ⟨0, 0, 0, 0⟩)
 | s => s
noncomputable abbrev zbe : Stmt := zh8 11 0
theorem zb1 : FnScope ["self", "weight", "field"] ["self", "weight", "field"] (zac zbe) := ⟨rfl, rfl, rfl, by decide +kernel, rfl, by decide +kernel, by decide +kernel⟩
noncomputable abbrev zas : Stmt := zh8 12 1
theorem zdj : FnScope ["self"] ["self"] (zac zas) := ⟨rfl, rfl, rfl, by decide +kernel, rfl, by decide +kernel, by decide +kernel⟩
noncomputable abbrev zat : Stmt := zh8 13 1
theorem zds : FnScope ["self"] ["self"] (zac zat) := ⟨rfl, rfl, rfl, by decide +kernel, rfl, by decide +kernel, by decide +kernel⟩
noncomputable abbrev zar : Stmt := zh8 14 1
theorem zdq : FnScope ["self"] ["self"] (zac zar) := ⟨rfl, rfl, rfl, by decide +kernel, rfl, by decide +kernel, by decide +kernel⟩
noncomputable abbrev zap : Stmt := zh8 15 1
theorem zdg : FnScope ["self"] ["self"] (zac zap) := ⟨rfl, rfl, rfl, by decide +kernel, rfl, by decide +kernel, by decide +kernel⟩
noncomputable abbrev zaz : Stmt := zh8 16 0
theorem zfb : FnScope ["self", "weight"] ["self", "weight"] (zac zaz) := ⟨rfl, rfl, rfl, by decide +kernel, rfl, by decide +kernel, by decide +kernel⟩
noncomputable abbrev zao : Stmt := zh8 16 2
theorem zc3 : FnScope ["self"] ["self"] (zac zao) := ⟨rfl, rfl, rfl, by decide +kernel, rfl, by decide +kernel, by decide +kernel⟩
noncomputable abbrev zbc : Stmt := top 17
theorem zg2 : FnScope ["weight", "field", "word"] ["weight", "field", "word"] (zac zbc) := ⟨rfl, rfl, rfl, by decide +kernel, rfl, by decide +kernel, by decide +kernel⟩
noncomputable abbrev za4 : Stmt := top 18
theorem zg8 : FnScope ["word"] ["word"] (zac za4) := ⟨rfl, rfl, rfl, by decide +kernel, rfl, by decide +kernel, by decide +kernel⟩
noncomputable abbrev zbb : Stmt := top 19
theorem zcx : FnScope ["row", "words", "amount"] ["row"] (zac zbb) := ⟨rfl, rfl, rfl, by decide +kernel, rfl, by decide +kernel, by decide +kernel⟩
noncomputable abbrev zav : Stmt := top 20
theorem zec : FnScope ["number", "row"] ["number", "row"] (zac zav) := ⟨rfl, rfl, rfl, by decide +kernel, rfl, by decide +kernel, by decide +kernel⟩
noncomputable abbrev za1 : Stmt := top 21
theorem zf2 : FnScope ["text"] ["text"] (zac za1) := ⟨rfl, rfl, rfl, by decide +kernel, rfl, by decide +kernel, by decide +kernel⟩
noncomputable abbrev zbg : Stmt := top 22
theorem zd3 : FnScope ["rule", "side"] ["rule"] (zac zbg) := ⟨rfl, rfl, rfl, by decide +kernel, rfl, by decide +kernel, by decide +kernel⟩
noncomputable abbrev zba : Stmt := top 24
theorem zg5 : FnScope ["_law_found"] ["_law_found"] (zac zba) := ⟨rfl, rfl, rfl, by decide +kernel, rfl, by decide +kernel, by decide +kernel⟩
noncomputable abbrev zbs : Stmt := top 25
theorem zbh : FnScope ["_law_cell", "_law_number", "_law_sort", "_law_field", "_law_weight", "_law_way"] ["_law_cell"] (zac zbs) := ⟨rfl, rfl, rfl, by decide +kernel, rfl, by decide +kernel, by decide +kernel⟩
noncomputable abbrev zbf : Stmt := top 26
theorem zd2 : FnScope ["_law_rule", "_law_some"] ["_law_rule"] (zac zbf) := ⟨rfl, rfl, rfl, by decide +kernel, rfl, by decide +kernel, by decide +kernel⟩
noncomputable abbrev zbi : Stmt := top 27
theorem zbx : FnScope ["_law_rule", "_law_due", "_law_row_here", "_law_weight", "_law_field", "_law_sort", "_law_found"] ["_law_rule", "_law_due"] (zac zbi) := ⟨rfl, rfl, rfl, by decide +kernel, rfl, by decide +kernel, by decide +kernel⟩
noncomputable abbrev zfn : Stmt := top 28
theorem zc9 : FnScope ["_law_script", "_law_dues", "_law_rows", "_law_cell", "_law_due", "_law_again", "_law_found", "_law_rule"] ["_law_script"] (zac zfn) := ⟨rfl, rfl, rfl, by decide +kernel, rfl, by decide +kernel, by decide +kernel⟩
set_option genInjectivity false in
set_option genSizeOf false in
structure Ad where
 (c_Former c_Like c_Near c_Other c_Rule c_Same k_FIELDS f_is_passed_by f_told_rows f_Rule_init f_Same_sort_word f_Like_sort_word f_Near_sort_word f_Other_sort_word f_Former_init f_Former_sort_word f_made_rule f_is_amount f_read_rule f_numbered_rule f_read_rules f_show_rule f_law_whole f_law_row f_law_sorts f_law_good f_law : Addr)
 (u_FIGURES u_GREATEST : Value)
 (d_is_passed_by d_told_rows d_Rule_init d_Same_sort_word d_Like_sort_word d_Near_sort_word d_Other_sort_word d_Former_init d_Former_sort_word d_made_rule d_is_amount d_read_rule d_numbered_rule d_read_rules d_show_rule d_law_whole d_law_row d_law_sorts d_law_good d_law : FuncData)
structure Tx (K : PySem.W.Frag) (mg : Str -> Option Value) (ad0 : Ad) : Prop where
 M_Former : mg "Former" = some (.ref ad0.c_Former)
 M_Like : mg "Like" = some (.ref ad0.c_Like)
 M_Near : mg "Near" = some (.ref ad0.c_Near)
 M_Other : mg "Other" = some (.ref ad0.c_Other)
 M_Rule : mg "Rule" = some (.ref ad0.c_Rule)
 M_Same : mg "Same" = some (.ref ad0.c_Same)
 Cl_Same : Cls K ad0.c_Same
 Mk_Same : Mk K ad0.c_Same ad0.f_Rule_init
 Cl_Like : Cls K ad0.c_Like
 Mk_Like : Mk K ad0.c_Like ad0.f_Rule_init
 Cl_Near : Cls K ad0.c_Near
 Mk_Near : Mk K ad0.c_Near ad0.f_Rule_init
 Cl_Other : Cls K ad0.c_Other
 Mk_Other : Mk K ad0.c_Other ad0.f_Rule_init
 Cl_Former : Cls K ad0.c_Former
 Mk_Former : Mk K ad0.c_Former ad0.f_Former_init
 Na_Same_weight : zbw K ad0.c_Same "weight"
 Na_Like_weight : zbw K ad0.c_Like "weight"
 Na_Near_weight : zbw K ad0.c_Near "weight"
 Na_Other_weight : zbw K ad0.c_Other "weight"
 Na_Former_weight : zbw K ad0.c_Former "weight"
 Me_Former_sort_word : Meth K ad0.c_Former "sort_word" ad0.f_Former_sort_word
 Me_Other_sort_word : Meth K ad0.c_Other "sort_word" ad0.f_Other_sort_word
 Me_Near_sort_word : Meth K ad0.c_Near "sort_word" ad0.f_Near_sort_word
 Me_Like_sort_word : Meth K ad0.c_Like "sort_word" ad0.f_Like_sort_word
 Me_Same_sort_word : Meth K ad0.c_Same "sort_word" ad0.f_Same_sort_word
 Na_Same_field : zbw K ad0.c_Same "field"
 Na_Like_field : zbw K ad0.c_Like "field"
 Na_Near_field : zbw K ad0.c_Near "field"
 Na_Other_field : zbw K ad0.c_Other "field"
 Na_Former_field : zbw K ad0.c_Former "field"
 IT_Same : ITell K ad0.c_Same
 I_Same_Other : PySem.W.kitOne K (.ref ad0.c_Same) (.ref ad0.c_Other) = some false
 IT_Like : ITell K ad0.c_Like
 I_Like_Other : PySem.W.kitOne K (.ref ad0.c_Like) (.ref ad0.c_Other) = some false
 IT_Near : ITell K ad0.c_Near
 I_Near_Other : PySem.W.kitOne K (.ref ad0.c_Near) (.ref ad0.c_Other) = some false
 IT_Other : ITell K ad0.c_Other
 I_Other_Other : PySem.W.kitOne K (.ref ad0.c_Other) (.ref ad0.c_Other) = some true
 IT_Former : ITell K ad0.c_Former
 I_Former_Other : PySem.W.kitOne K (.ref ad0.c_Former) (.ref ad0.c_Other) = some false
 I_Same_Near : PySem.W.kitOne K (.ref ad0.c_Same) (.ref ad0.c_Near) = some false
 I_Like_Near : PySem.W.kitOne K (.ref ad0.c_Like) (.ref ad0.c_Near) = some false
 I_Near_Near : PySem.W.kitOne K (.ref ad0.c_Near) (.ref ad0.c_Near) = some true
 I_Other_Near : PySem.W.kitOne K (.ref ad0.c_Other) (.ref ad0.c_Near) = some false
 I_Former_Near : PySem.W.kitOne K (.ref ad0.c_Former) (.ref ad0.c_Near) = some false
 I_Same_Like : PySem.W.kitOne K (.ref ad0.c_Same) (.ref ad0.c_Like) = some false
 I_Like_Like : PySem.W.kitOne K (.ref ad0.c_Like) (.ref ad0.c_Like) = some true
 I_Near_Like : PySem.W.kitOne K (.ref ad0.c_Near) (.ref ad0.c_Like) = some false
 I_Other_Like : PySem.W.kitOne K (.ref ad0.c_Other) (.ref ad0.c_Like) = some false
 I_Former_Like : PySem.W.kitOne K (.ref ad0.c_Former) (.ref ad0.c_Like) = some false
 I_Same_Same : PySem.W.kitOne K (.ref ad0.c_Same) (.ref ad0.c_Same) = some true
 I_Like_Same : PySem.W.kitOne K (.ref ad0.c_Like) (.ref ad0.c_Same) = some false
 I_Near_Same : PySem.W.kitOne K (.ref ad0.c_Near) (.ref ad0.c_Same) = some false
 I_Other_Same : PySem.W.kitOne K (.ref ad0.c_Other) (.ref ad0.c_Same) = some false
 I_Former_Same : PySem.W.kitOne K (.ref ad0.c_Former) (.ref ad0.c_Same) = some false
 I_Same_Former : PySem.W.kitOne K (.ref ad0.c_Same) (.ref ad0.c_Former) = some false
 I_Like_Former : PySem.W.kitOne K (.ref ad0.c_Like) (.ref ad0.c_Former) = some false
 I_Near_Former : PySem.W.kitOne K (.ref ad0.c_Near) (.ref ad0.c_Former) = some false
 I_Other_Former : PySem.W.kitOne K (.ref ad0.c_Other) (.ref ad0.c_Former) = some false
 I_Former_Former : PySem.W.kitOne K (.ref ad0.c_Former) (.ref ad0.c_Former) = some true
 I_Same_Rule : PySem.W.kitOne K (.ref ad0.c_Same) (.ref ad0.c_Rule) = some true
 I_Like_Rule : PySem.W.kitOne K (.ref ad0.c_Like) (.ref ad0.c_Rule) = some true
 I_Near_Rule : PySem.W.kitOne K (.ref ad0.c_Near) (.ref ad0.c_Rule) = some true
 I_Other_Rule : PySem.W.kitOne K (.ref ad0.c_Other) (.ref ad0.c_Rule) = some true
 I_Former_Rule : PySem.W.kitOne K (.ref ad0.c_Former) (.ref ad0.c_Rule) = some true
 Ca_Rule_init : CMeth K ad0.c_Rule "__init__" ad0.f_Rule_init
 M_FIELDS : mg "FIELDS" = some (.ref ad0.k_FIELDS)
 K_FIELDS : TupK K ad0.k_FIELDS [[110, 97, 109, 101], [102, 111, 114, 109, 101, 114], [119, 97, 121], [100, 97, 121], [109, 97, 114, 107]]
 M_FIGURES : mg "FIGURES" = some ad0.u_FIGURES
 R_FIGURES : RelV (.str (T [48, 49, 50, 51, 52, 53, 54, 55, 56, 57])) ad0.u_FIGURES
 M_GREATEST : mg "GREATEST" = some ad0.u_GREATEST
 R_GREATEST : RelV (.int 1000000000) ad0.u_GREATEST
 F_is_passed_by : Fun K "is_passed_by" "is_passed_by" zaw ad0.f_is_passed_by ad0.d_is_passed_by
 B_is_passed_by : zbp K ad0.d_is_passed_by ["row"] []
 M_is_passed_by : mg "is_passed_by" = some (.ref ad0.f_is_passed_by)
 F_told_rows : Fun K "told_rows" "told_rows" za5 ad0.f_told_rows ad0.d_told_rows
 B_told_rows : zbp K ad0.d_told_rows ["text"] []
 M_told_rows : mg "told_rows" = some (.ref ad0.f_told_rows)
 F_Rule_init : Fun K "__init__" "Rule.__init__" zbe ad0.f_Rule_init ad0.d_Rule_init
 B_Rule_init : zbp K ad0.d_Rule_init ["self", "weight", "field"] []
 F_Same_sort_word : Fun K "sort_word" "Same.sort_word" zas ad0.f_Same_sort_word ad0.d_Same_sort_word
 B_Same_sort_word : zbp K ad0.d_Same_sort_word ["self"] []
 F_Like_sort_word : Fun K "sort_word" "Like.sort_word" zat ad0.f_Like_sort_word ad0.d_Like_sort_word
 B_Like_sort_word : zbp K ad0.d_Like_sort_word ["self"] []
 F_Near_sort_word : Fun K "sort_word" "Near.sort_word" zar ad0.f_Near_sort_word ad0.d_Near_sort_word
 B_Near_sort_word : zbp K ad0.d_Near_sort_word ["self"] []
 F_Other_sort_word : Fun K "sort_word" "Other.sort_word" zap ad0.f_Other_sort_word ad0.d_Other_sort_word
 B_Other_sort_word : zbp K ad0.d_Other_sort_word ["self"] []
 F_Former_init : Fun K "__init__" "Former.__init__" zaz ad0.f_Former_init ad0.d_Former_init
 B_Former_init : zbp K ad0.d_Former_init ["self", "weight"] []
 F_Former_sort_word : Fun K "sort_word" "Former.sort_word" zao ad0.f_Former_sort_word ad0.d_Former_sort_word
 B_Former_sort_word : zbp K ad0.d_Former_sort_word ["self"] []
 F_made_rule : Fun K "made_rule" "made_rule" zbc ad0.f_made_rule ad0.d_made_rule
 B_made_rule : zbp K ad0.d_made_rule ["weight", "field", "word"] []
 M_made_rule : mg "made_rule" = some (.ref ad0.f_made_rule)
 F_is_amount : Fun K "is_amount" "is_amount" za4 ad0.f_is_amount ad0.d_is_amount
 B_is_amount : zbp K ad0.d_is_amount ["word"] []
 M_is_amount : mg "is_amount" = some (.ref ad0.f_is_amount)
 F_read_rule : Fun K "read_rule" "read_rule" zbb ad0.f_read_rule ad0.d_read_rule
 B_read_rule : zbp K ad0.d_read_rule ["row"] []
 M_read_rule : mg "read_rule" = some (.ref ad0.f_read_rule)
 F_numbered_rule : Fun K "numbered_rule" "numbered_rule" zav ad0.f_numbered_rule ad0.d_numbered_rule
 B_numbered_rule : zbp K ad0.d_numbered_rule ["number", "row"] []
 M_numbered_rule : mg "numbered_rule" = some (.ref ad0.f_numbered_rule)
 F_read_rules : Fun K "read_rules" "read_rules" za1 ad0.f_read_rules ad0.d_read_rules
 B_read_rules : zbp K ad0.d_read_rules ["text"] []
 M_read_rules : mg "read_rules" = some (.ref ad0.f_read_rules)
 F_show_rule : Fun K "show_rule" "show_rule" zbg ad0.f_show_rule ad0.d_show_rule
 B_show_rule : zbp K ad0.d_show_rule ["rule"] []
 M_show_rule : mg "show_rule" = some (.ref ad0.f_show_rule)
 F_law_whole : Fun K "_law_whole" "_law_whole" zba ad0.f_law_whole ad0.d_law_whole
 B_law_whole : zbp K ad0.d_law_whole ["_law_found"] []
 M_law_whole : mg "_law_whole" = some (.ref ad0.f_law_whole)
 F_law_row : Fun K "_law_row" "_law_row" zbs ad0.f_law_row ad0.d_law_row
 B_law_row : zbp K ad0.d_law_row ["_law_cell"] []
 M_law_row : mg "_law_row" = some (.ref ad0.f_law_row)
 F_law_sorts : Fun K "_law_sorts" "_law_sorts" zbf ad0.f_law_sorts ad0.d_law_sorts
 B_law_sorts : zbp K ad0.d_law_sorts ["_law_rule"] []
 M_law_sorts : mg "_law_sorts" = some (.ref ad0.f_law_sorts)
 F_law_good : Fun K "_law_good" "_law_good" zbi ad0.f_law_good ad0.d_law_good
 B_law_good : zbp K ad0.d_law_good ["_law_rule", "_law_due"] []
 M_law_good : mg "_law_good" = some (.ref ad0.f_law_good)
 F_law : Fun K "law" "law" zfn ad0.f_law ad0.d_law
 B_law : zbp K ad0.d_law ["_law_script"] []
 M_law : mg "law" = some (.ref ad0.f_law)
 z_abs : mg "abs" = none
 z_all : mg "all" = none
 z_bool : mg "bool" = none
 z_enumerate : mg "enumerate" = none
 z_int : mg "int" = none
 z_isinstance : mg "isinstance" = none
 z_len : mg "len" = none
 z_list : mg "list" = none
 z_range : mg "range" = none
 z_str : mg "str" = none
 z_zip : mg "zip" = none
section
variable {P : Program} {w : World} {K : PySem.W.Frag} {mg : Str -> Option Value} {base : Heap} {ad0 : Ad}
noncomputable def figs : List Nat := [48, 49, 50, 51, 52, 53, 54, 55, 56, 57]
theorem zn5 : ∀ c ∈ figs, c < 128 := by decide
theorem znm {c : Nat} (h : 48 <= c /\ c <= 57) : c ∈ figs := by
 have : ∀ k : Nat, k < 58 -> 48 <= k -> k ∈ figs := by decide
 exact this c (by omega) h.1
noncomputable def znb (ds : List D) : Prop := ∃ n : Nat, ds = [.str (numL n)] /\ 0 < n /\ n <= 1000000000
theorem zg1 {n : Nat} (h : n <= 1000000000) : (numL n).length <= 10 := zma (Nat.lt_of_le_of_lt h (by decide))
theorem zg3 (Z : Tx K mg ad0) : FnOk P w K mg base CX0 1 ad0.f_is_amount ad0.d_is_amount ["word"] (SpD K znb fun _ => .bl true) := by
 refine Z.F_is_amount.ok zg8 (fun vs H Q E h => zdv (n:=1) (by rintro ds ⟨n, rfl, _⟩; rfl) h) (fun cdv A outer s H vs Q E hr h => ⟨_, (zae (zco (PW.pt (zib (za9 zcm (pv 0) zan (zbj _)) (zib (za9 zcm (zc7 zo5 (pv 0) zau (fun _ _ => rfl)) zan (zbj _)) (zgx (za9 zoz (za3 zdz (by rfl) Z.z_len boot_len (zaa (pv 0) zaf)) (za3 zdz (by rfl) Z.z_len boot_len (zaa (zcq (show zb2 _ _ zkt from ze4) (by rfl) Z.z_str boot_str (zaa (zb9 (by rfl) Z.M_GREATEST Z.R_GREATEST) zaf)) zaf)) (zbj _)))))) (zag (za6 zhw)) zbk)
   (zag (za6 (zha (za3 (zlv rfl) (by rfl) Z.z_all boot_all (zaa (zlo rfl (LcOk.of (Nx:=(["word"] : List Str)) (sc:=zac za4) (N':=(["sign"] : List Str)) (nt:=1) (cs:=[]) rfl rfl (by decide +kernel)) (zpp (pv 0)) (fun _ _ _ _ => (zbt (i:=0) (show List.Nodup (["sign"] : List Str) by decide +kernel) rfl (Or.inl rfl))) (fun _ _ _ _ => zfy) (fun _ _ _ _ => (zc5 zj8 (pv 0) (zb9 (by rfl) Z.M_FIGURES Z.R_FIGURES) (by with_unfolding_all rfl)))) zaf)) (zik (zc5 zps (zcq (show zb2 _ _ zl1 from zga) (by rfl) Z.z_int boot_int (zaa (pv 0) zaf)) (zb9 (by rfl) Z.M_GREATEST Z.R_GREATEST) (zbj _))))))), ?_⟩)
 refine zkq h (by rw [zdv (n:=1) (by rintro ds ⟨n, rfl, _⟩; rfl) h]; decide) fun G ds hp rt => ?_
 obtain ⟨n, rfl, h0, h1⟩ := hp
 have hl := zg1 h1
 have hd := zch n
 have hv := zi0 n
 obtain ⟨c, r, e, hc⟩ := zhl n h0
 generalize numL n = l at *
 have hz : l.length <= sizeLine := by rw [sizeLine_eq]; omega
 have hne : l ≠ [] := by rw [e]; simp
 have g10 : (numL (1000000000 : Int).toNat).length = 10 := by decide +kernel
 have hat : atI l 0 = some c := by rw [e]; exact zj6 (xs:=c :: r) (j:=0) rfl
 refine zay (zcu (b:=(decide (l = []) || (decide ([c] = [48]) || decide (((numL (1000000000 : Int).toNat).length : Int) < (l.length : Int))))) (ze5 (za7 (zc1 (zad rfl).b (zaq (l:=[]) rfl (by simp)).b)) fun _ => ze5 (za7 (zc1 (zom (zad rfl).b za0.b hz hat).b (zaq (l:=[48]) (by decide +kernel) (by decide)).b)) fun _ => za7 (zo3 (zkz (zad rfl).b hz).b (zkz (zht za0.b (by decide) (by decide)).b (by rw [g10]; decide)).b)) (fun hb => ?_) (fun _ => zbl ?_))
 ·rw [decide_eq_false hne, Bool.false_or, decide_eq_false (fun z => by injection z with z; omega), Bool.false_or, g10] at hb
  have := of_decide_eq_true hb
  omega
 ((try dsimp only); refine zbm ?_)
 have ea : (l.all (fun c => decide (c ∈ figs)) && decide ((((NumText.digitsVal l : Nat) : Int)) <= 1000000000)) = true := by
  rw [Bool.and_eq_true]
  exact ⟨List.all_eq_true.mpr fun c hc => decide_eq_true (znm (hd c hc)), decide_eq_true (by rw [hv]; omega)⟩
 have rt' : RtD K G H Q (.bl (l.all (fun c => decide (c ∈ figs)) && decide ((((NumText.digitsVal l : Nat) : Int)) <= 1000000000))) := by rw [ea]; exact rt
 exact zbu (zgy (zm6 (xs:=l) (g:=fun c => decide (c ∈ figs)) (EvO.l (zk7 l (fun c => .bl (decide (c ∈ figs))) (zad rfl).b (zdm (by decide)) (by decide) (by rw [sizeLine_eq]; omega) fun c hc => ⟨_, zbv, zpm (zad rfl).b (zaq (l:=figs) (by decide +kernel) zn5).b⟩))) fun _ => zpx (zks (zad rfl).b hd hne (by omega)).b za0.b) rt'
noncomputable def fld (w : Int) (f : List Nat) : List (Str × V) := [("weight", .int w), ("field", .str (T f))]
noncomputable def nmL : List Nat := ("name" : Str).cps.toList
theorem zku : ∀ c ∈ nmL, c < 128 := by decide +kernel
theorem znv : T nmL = "name" := by decide +kernel
theorem zgd (Z : Tx K mg ad0) : FnOk P w K mg base CX0 1 ad0.f_Rule_init ad0.d_Rule_init ["self", "weight", "field"] (zdp ad0.c_Same "weight" "field") := by
 refine Z.F_Rule_init.ok zb1 (fun vs H Q E h => by obtain ⟨x, dx, u, v, rfl, _⟩ := h; rfl) (fun cdv A outer s H vs Q E hr h => ⟨_, (zae (zc0 (pv 0) (pv 1) (by rfl))
   (zag (zc0 (pv 0) (pv 2) (by rfl)))), ?_⟩)
 obtain ⟨x, dx, u, v, rfl, hx, hd, q⟩ := h
 refine ⟨_, rfl, _, rfl, x, ad0.c_Same, dx, [], rfl, hx, Z.Cl_Same, Z.Na_Same_weight, by decide, ?_⟩
 refine ⟨_, rfl, _, rfl, x, ad0.c_Same, dx, [("weight", u)], rfl, zal, Z.Cl_Same, Z.Na_Same_field, (show 1 < 1000 by decide), ?_⟩
 rw [upd2]; exact q
theorem zhj (Z : Tx K mg ad0) : FnOk P w K mg base CX0 1 ad0.f_Rule_init ad0.d_Rule_init ["self", "weight", "field"] (zdp ad0.c_Like "weight" "field") := by
 refine Z.F_Rule_init.ok zb1 (fun vs H Q E h => by obtain ⟨x, dx, u, v, rfl, _⟩ := h; rfl) (fun cdv A outer s H vs Q E hr h => ⟨_, (zae (zc0 (pv 0) (pv 1) (by rfl))
   (zag (zc0 (pv 0) (pv 2) (by rfl)))), ?_⟩)
 obtain ⟨x, dx, u, v, rfl, hx, hd, q⟩ := h
 refine ⟨_, rfl, _, rfl, x, ad0.c_Like, dx, [], rfl, hx, Z.Cl_Like, Z.Na_Like_weight, by decide, ?_⟩
 refine ⟨_, rfl, _, rfl, x, ad0.c_Like, dx, [("weight", u)], rfl, zal, Z.Cl_Like, Z.Na_Like_field, (show 1 < 1000 by decide), ?_⟩
 rw [upd2]; exact q
theorem zgm (Z : Tx K mg ad0) : FnOk P w K mg base CX0 1 ad0.f_Rule_init ad0.d_Rule_init ["self", "weight", "field"] (zdp ad0.c_Near "weight" "field") := by
 refine Z.F_Rule_init.ok zb1 (fun vs H Q E h => by obtain ⟨x, dx, u, v, rfl, _⟩ := h; rfl) (fun cdv A outer s H vs Q E hr h => ⟨_, (zae (zc0 (pv 0) (pv 1) (by rfl))
   (zag (zc0 (pv 0) (pv 2) (by rfl)))), ?_⟩)
 obtain ⟨x, dx, u, v, rfl, hx, hd, q⟩ := h
 refine ⟨_, rfl, _, rfl, x, ad0.c_Near, dx, [], rfl, hx, Z.Cl_Near, Z.Na_Near_weight, by decide, ?_⟩
 refine ⟨_, rfl, _, rfl, x, ad0.c_Near, dx, [("weight", u)], rfl, zal, Z.Cl_Near, Z.Na_Near_field, (show 1 < 1000 by decide), ?_⟩
 rw [upd2]; exact q
theorem zfv (Z : Tx K mg ad0) : FnOk P w K mg base CX0 1 ad0.f_Rule_init ad0.d_Rule_init ["self", "weight", "field"] (zdp ad0.c_Other "weight" "field") := by
 refine Z.F_Rule_init.ok zb1 (fun vs H Q E h => by obtain ⟨x, dx, u, v, rfl, _⟩ := h; rfl) (fun cdv A outer s H vs Q E hr h => ⟨_, (zae (zc0 (pv 0) (pv 1) (by rfl))
   (zag (zc0 (pv 0) (pv 2) (by rfl)))), ?_⟩)
 obtain ⟨x, dx, u, v, rfl, hx, hd, q⟩ := h
 refine ⟨_, rfl, _, rfl, x, ad0.c_Other, dx, [], rfl, hx, Z.Cl_Other, Z.Na_Other_weight, by decide, ?_⟩
 refine ⟨_, rfl, _, rfl, x, ad0.c_Other, dx, [("weight", u)], rfl, zal, Z.Cl_Other, Z.Na_Other_field, (show 1 < 1000 by decide), ?_⟩
 rw [upd2]; exact q
theorem zhk (Z : Tx K mg ad0) : FnOk P w K mg base CX0 1 ad0.f_Rule_init ad0.d_Rule_init ["self", "weight", "field"] (zdp ad0.c_Former "weight" "field") := by
 refine Z.F_Rule_init.ok zb1 (fun vs H Q E h => by obtain ⟨x, dx, u, v, rfl, _⟩ := h; rfl) (fun cdv A outer s H vs Q E hr h => ⟨_, (zae (zc0 (pv 0) (pv 1) (by rfl))
   (zag (zc0 (pv 0) (pv 2) (by rfl)))), ?_⟩)
 obtain ⟨x, dx, u, v, rfl, hx, hd, q⟩ := h
 refine ⟨_, rfl, _, rfl, x, ad0.c_Former, dx, [], rfl, hx, Z.Cl_Former, Z.Na_Former_weight, by decide, ?_⟩
 refine ⟨_, rfl, _, rfl, x, ad0.c_Former, dx, [("weight", u)], rfl, zal, Z.Cl_Former, Z.Na_Former_field, (show 1 < 1000 by decide), ?_⟩
 rw [upd2]; exact q
theorem zfa (Z : Tx K mg ad0) : FnOk P w K mg base CX0 2 ad0.f_Former_init ad0.d_Former_init ["self", "weight"] (zj5 ad0.c_Former "weight" "field" (.str (T nmL))) := by
 have G_Rule_init__Former := zhk (P:=P) (w:=w) (base:=base) Z
 refine Z.F_Former_init.ok zfb (fun vs H Q E h => by obtain ⟨x, dx, u, rfl, _⟩ := h; rfl) (fun cdv A outer s H vs Q E hr h => ⟨_, (zag (zeo (zjb (by rfl) Z.M_Rule Z.Ca_Rule_init G_Rule_init__Former (hr.mono (by decide)) Z.B_Rule_init .nil zcc (zaa (pv 0) (zaa (pv 1) (zaa zan zaf)))))), ?_⟩)
 obtain ⟨x, dx, u, rfl, hx, hd, q⟩ := h
 rw [znv] at q
 exact ⟨_, rfl, _, rfl, x, dx, u, _, rfl, hx, hd, q⟩
noncomputable def zai : Nat -> List Nat
 | 0 => ("same" : Str).cps.toList
 | 1 => ("like" : Str).cps.toList
 | 2 => ("near" : Str).cps.toList
 | 3 => ("other" : Str).cps.toList
 | _ => ("former" : Str).cps.toList
noncomputable def zc2 (fs : List (Str × V)) (ds : List D) : Prop := ds = []
theorem zg7 (Z : Tx K mg ad0) : FnOk P w K mg base CX0 1 ad0.f_Same_sort_word ad0.d_Same_sort_word ["self"] (SpI K ad0.c_Same zc2 fun _ _ => .str (zai 0)) := by
 refine Z.F_Same_sort_word.ok zdj (fun vs H Q E h => zca (n:=1) (by rintro fs ds rfl; rfl) h) (fun cdv A outer s H vs Q E hr h => ⟨_, (zag (za6 zan)), ?_⟩)
 refine zgg h (by rw [zca (n:=1) (by rintro fs ds rfl; rfl) h]; decide) fun G ds xx dx fs hp rt => ?_
 exact zbu (zgp (by decide +kernel)) rt
theorem zg6 (Z : Tx K mg ad0) : FnOk P w K mg base CX0 1 ad0.f_Like_sort_word ad0.d_Like_sort_word ["self"] (SpI K ad0.c_Like zc2 fun _ _ => .str (zai 1)) := by
 refine Z.F_Like_sort_word.ok zds (fun vs H Q E h => zca (n:=1) (by rintro fs ds rfl; rfl) h) (fun cdv A outer s H vs Q E hr h => ⟨_, (zag (za6 zan)), ?_⟩)
 refine zgg h (by rw [zca (n:=1) (by rintro fs ds rfl; rfl) h]; decide) fun G ds xx dx fs hp rt => ?_
 exact zbu (zgp (by decide +kernel)) rt
theorem zgw (Z : Tx K mg ad0) : FnOk P w K mg base CX0 1 ad0.f_Near_sort_word ad0.d_Near_sort_word ["self"] (SpI K ad0.c_Near zc2 fun _ _ => .str (zai 2)) := by
 refine Z.F_Near_sort_word.ok zdq (fun vs H Q E h => zca (n:=1) (by rintro fs ds rfl; rfl) h) (fun cdv A outer s H vs Q E hr h => ⟨_, (zag (za6 zan)), ?_⟩)
 refine zgg h (by rw [zca (n:=1) (by rintro fs ds rfl; rfl) h]; decide) fun G ds xx dx fs hp rt => ?_
 exact zbu (zgp (by decide +kernel)) rt
theorem zfu (Z : Tx K mg ad0) : FnOk P w K mg base CX0 1 ad0.f_Other_sort_word ad0.d_Other_sort_word ["self"] (SpI K ad0.c_Other zc2 fun _ _ => .str (zai 3)) := by
 refine Z.F_Other_sort_word.ok zdg (fun vs H Q E h => zca (n:=1) (by rintro fs ds rfl; rfl) h) (fun cdv A outer s H vs Q E hr h => ⟨_, (zag (za6 zan)), ?_⟩)
 refine zgg h (by rw [zca (n:=1) (by rintro fs ds rfl; rfl) h]; decide) fun G ds xx dx fs hp rt => ?_
 exact zbu (zgp (by decide +kernel)) rt
theorem ze6 (Z : Tx K mg ad0) : FnOk P w K mg base CX0 1 ad0.f_Former_sort_word ad0.d_Former_sort_word ["self"] (SpI K ad0.c_Former zc2 fun _ _ => .str (zai 4)) := by
 refine Z.F_Former_sort_word.ok zc3 (fun vs H Q E h => zca (n:=1) (by rintro fs ds rfl; rfl) h) (fun cdv A outer s H vs Q E hr h => ⟨_, (zag (za6 zan)), ?_⟩)
 refine zgg h (by rw [zca (n:=1) (by rintro fs ds rfl; rfl) h]; decide) fun G ds xx dx fs hp rt => ?_
 exact zbu (zgp (by decide +kernel)) rt
noncomputable abbrev Rl := Nat × List Nat × Int
noncomputable def cOf (c1 c2 c3 c4 c5 : Addr) : Nat -> Addr
 | 0 => c1 | 1 => c2 | 2 => c3 | 3 => c4 | _ => c5
noncomputable def fEf (r : Rl) : List Nat := if r.1 < 4 then r.2.1 else nmL
noncomputable def insR (c1 c2 c3 c4 c5 : Addr) (r : Rl) : D := .ins (cOf c1 c2 c3 c4 c5 r.1) ["weight", "field"] [.int r.2.2, .str (fEf r)]
section
variable {G H₀ L : Hp} {ss : List Sl} {ta : TE} {t : TA} {r : Rl}
theorem znp (c1 c2 c3 c4 c5 : Addr) (hr : r.1 < 5) (a : Ev K G H₀ L ss ta (insR c1 c2 c3 c4 c5 r)) :
  Ev K G H₀ L ss (zj0 [(c1, SpI K c1 zc2 fun _ _ => .str (zai 0)), (c2, SpI K c2 zc2 fun _ _ => .str (zai 1)), (c3, SpI K c3 zc2 fun _ _ => .str (zai 2)), (c4, SpI K c4 zc2 fun _ _ => .str (zai 3)), (c5, SpI K c5 zc2 fun _ _ => .str (zai 4))] "sort_word" E0 ta tNil) (.str (zai r.1)) := by
 obtain ⟨s, f, wt⟩ := r
 match s, hr, a with
 | 0, _, a => exact zdf (pre:=zc2) (res:=fun _ _ => .str (zai 0)) (ds:=[]) a (by simp [cOf]) (by decide +kernel) (by decide +kernel) zak rfl
 | 1, _, a => exact zdf (pre:=zc2) (res:=fun _ _ => .str (zai 1)) (ds:=[]) a (by simp [cOf]) (by decide +kernel) (by decide +kernel) zak rfl
 | 2, _, a => exact zdf (pre:=zc2) (res:=fun _ _ => .str (zai 2)) (ds:=[]) a (by simp [cOf]) (by decide +kernel) (by decide +kernel) zak rfl
 | 3, _, a => exact zdf (pre:=zc2) (res:=fun _ _ => .str (zai 3)) (ds:=[]) a (by simp [cOf]) (by decide +kernel) (by decide +kernel) zak rfl
 | 4, _, a => exact zdf (pre:=zc2) (res:=fun _ _ => .str (zai 4)) (ds:=[]) a (by simp [cOf]) (by decide +kernel) (by decide +kernel) zak rfl
end
theorem zkh (Z : Tx K mg ad0) (s : Nat) : Cls K (cOf ad0.c_Same ad0.c_Like ad0.c_Near ad0.c_Other ad0.c_Former s) /\ zbw K (cOf ad0.c_Same ad0.c_Like ad0.c_Near ad0.c_Other ad0.c_Former s) "weight" /\ zbw K (cOf ad0.c_Same ad0.c_Like ad0.c_Near ad0.c_Other ad0.c_Former s) "field" := by
 match s with
 | 0 => exact ⟨Z.Cl_Same, Z.Na_Same_weight, Z.Na_Same_field⟩
 | 1 => exact ⟨Z.Cl_Like, Z.Na_Like_weight, Z.Na_Like_field⟩
 | 2 => exact ⟨Z.Cl_Near, Z.Na_Near_weight, Z.Na_Near_field⟩
 | 3 => exact ⟨Z.Cl_Other, Z.Na_Other_weight, Z.Na_Other_field⟩
 | _ + 4 => exact ⟨Z.Cl_Former, Z.Na_Former_weight, Z.Na_Former_field⟩
theorem zf6 (Z : Tx K mg ad0) : FnOk P w K mg base CX0 1 ad0.f_law_whole ad0.d_law_whole ["_law_found"] (SpD K (fun ds => ∃ c : Int, ds = [.int c]) fun _ => .bl true) := by
 refine Z.F_law_whole.ok zg5 (fun vs H Q E h => zdv (n:=1) (by rintro ds ⟨c, rfl⟩; rfl) h) (fun cdv A outer s H vs Q E hr h => ⟨_, (zag (za6 (zha (za3 zeb (by rfl) Z.z_isinstance boot_isinstance (zaa (pv 0) (zaa (zex (v:=.ty "int") (by rfl) Z.z_int boot_int rfl) zaf))) (zik (zot (za3 zdw (by rfl) Z.z_isinstance boot_isinstance (zaa (pv 0) (zaa (zex (v:=.ty "bool") (by rfl) Z.z_bool boot_bool rfl) zaf)))))))), ?_⟩)
 refine zkq h (by rw [zdv (n:=1) (by rintro ds ⟨c, rfl⟩; rfl) h]; decide) fun G ds hp rt => ?_
 obtain ⟨c, rfl⟩ := hp
 exact zbu (zgy (zoq (zad rfl).b) fun _ => zo0 (znw (zad rfl).b)) rt
noncomputable def ruOk (r : Rl) : Prop := r.1 < 5 /\ (∀ c ∈ r.2.1, c < 128) /\ (r.1 = 4 -> r.2.1 = nmL)
noncomputable def zpr (c1 c2 c3 c4 c5 : Addr) (r : Rl) (ds : List D) : Prop := ds = [.int r.2.2, .str r.2.1, .str (zai r.1)] /\ ruOk r
theorem zg9 : ∀ n : Nat, n < 5 -> ∀ c ∈ zai n, c < 128 := by decide +kernel
theorem zce : ∀ n : Nat, n < 5 -> ∀ m : Nat, m < 5 -> (zai n = zai m ↔ n = m) := by decide +kernel
theorem zhd (Z : Tx K mg ad0) : FnOk P w K mg base CX0 4 ad0.f_made_rule ad0.d_made_rule ["weight", "field", "word"] (SpG K (zpr ad0.c_Same ad0.c_Like ad0.c_Near ad0.c_Other ad0.c_Former) (insR ad0.c_Same ad0.c_Like ad0.c_Near ad0.c_Other ad0.c_Former)) := by
 have G_Rule_init__Same := zgd (P:=P) (w:=w) (base:=base) Z
 have G_Rule_init__Like := zhj (P:=P) (w:=w) (base:=base) Z
 have G_Rule_init__Near := zgm (P:=P) (w:=w) (base:=base) Z
 have G_Rule_init__Other := zfv (P:=P) (w:=w) (base:=base) Z
 have G_Former_init__Former := zfa (P:=P) (w:=w) (base:=base) Z
 refine Z.F_made_rule.ok zg2 (fun vs H Q E h => zcb (n:=3) (by rintro q ds ⟨rfl, _⟩; rfl) h) (fun cdv A outer s H vs Q E hr h => ⟨_, (zae (zco (za9 zcm (pv 2) zan (zbj _)) (zag (za6 (zep Z.Mk_Same G_Rule_init__Same (hr.mono (by decide)) (by rfl) Z.M_Same Z.B_Rule_init .nil zcc (zaa (pv 0) (zaa (pv 1) zaf))))) zbk)
   (zae (zco (za9 zcm (pv 2) zan (zbj _)) (zag (za6 (zep Z.Mk_Like G_Rule_init__Like (hr.mono (by decide)) (by rfl) Z.M_Like Z.B_Rule_init .nil zcc (zaa (pv 0) (zaa (pv 1) zaf))))) zbk)
   (zae (zco (za9 zcm (pv 2) zan (zbj _)) (zag (za6 (zep Z.Mk_Near G_Rule_init__Near (hr.mono (by decide)) (by rfl) Z.M_Near Z.B_Rule_init .nil zcc (zaa (pv 0) (zaa (pv 1) zaf))))) zbk)
   (zae (zco (za9 zcm (pv 2) zan (zbj _)) (zag (za6 (zep Z.Mk_Other G_Rule_init__Other (hr.mono (by decide)) (by rfl) Z.M_Other Z.B_Rule_init .nil zcc (zaa (pv 0) (zaa (pv 1) zaf))))) zbk)
   (zae (zco (PW.pt (zpe (za9 zcm (pv 2) zan (zbj _)) (zne (za9 zcm (pv 1) zan (zbj _))))) (zag (za6 (zep Z.Mk_Former G_Former_init__Former (hr.mono (by decide)) (by rfl) Z.M_Former Z.B_Former_init .nil zcc (zaa (pv 0) zaf)))) zbk)
   (zag zf4)))))), ?_⟩)
 refine zhe h (by rw [zcb (n:=3) (by rintro q ds ⟨rfl, _⟩; rfl) h]; decide) fun G ds r hp rt => ?_
 obtain ⟨rfl, h5, hfa, hf4⟩ := hp
 obtain ⟨n, f, wt⟩ := r
 have h5 : n < 5 := h5
 have two : ∀ {L0 : Hp} {ss : List Sl}, ss[0]? = some (.d (.int wt)) -> ss[1]? = some (.d (.str f)) -> EvAF K G H L0 ss (zbn (tVar 0) (zbn (tVar 1) tNil)) [.int wt, .str f] := fun e1 e2 => zab (zad e1) (zab (zad e2) zak)
 have wd : ∀ {L0 : Hp} {ss : List Sl} (m : Nat) (x : Str), m < 5 -> x = T (zai m) -> ss[2]? = some (.d (.str (zai n))) -> EvT K G H L0 ss (zn2 (tOp rEq (tVar 2) (tC (.str x)))) (decide (zai n = zai m)) := fun m x hm hx e => za7 (zc1 (zad e).b (zaq hx (zg9 m hm)).b)
 refine zay (zcu (wd 0 _ (by decide) (by decide +kernel) rfl) (fun hb => ?_) (fun hb0 => zbl ?_))
 ·cases (zce n h5 0 (by decide)).mp (of_decide_eq_true hb)
  exact zbu (zee (two rfl rfl)) rt
 ((try dsimp only); refine zbm ?_)
 refine zay (zcu (wd 1 _ (by decide) (by decide +kernel) rfl) (fun hb => ?_) (fun hb1 => zbl ?_))
 ·cases (zce n h5 1 (by decide)).mp (of_decide_eq_true hb)
  exact zbu (zee (two rfl rfl)) rt
 ((try dsimp only); refine zbm ?_)
 refine zay (zcu (wd 2 _ (by decide) (by decide +kernel) rfl) (fun hb => ?_) (fun hb2 => zbl ?_))
 ·cases (zce n h5 2 (by decide)).mp (of_decide_eq_true hb)
  exact zbu (zee (two rfl rfl)) rt
 ((try dsimp only); refine zbm ?_)
 refine zay (zcu (wd 3 _ (by decide) (by decide +kernel) rfl) (fun hb => ?_) (fun hb3 => zbl ?_))
 ·cases (zce n h5 3 (by decide)).mp (of_decide_eq_true hb)
  exact zbu (zee (two rfl rfl)) rt
 ((try dsimp only); refine zbm ?_)
 have no : ∀ m, m < 5 -> decide (zai n = zai m) = false -> n ≠ m := fun m hm h z => of_decide_eq_false h ((zce n h5 m hm).mpr z)
 have hn : n = 4 := by
  have := no 0 (by decide) hb0; have := no 1 (by decide) hb1; have := no 2 (by decide) hb2; have := no 3 (by decide) hb3
  omega
 subst hn
 cases hf4 rfl
 refine zay (zcu (b:=(decide (zai 4 = zai 4) && decide (nmL = nmL))) (zmv (wd 4 _ (by decide) (by decide +kernel) rfl) fun _ => za7 (zc1 (zad rfl).b (zaq znv.symm zku).b)) (fun _ => zbu (zl8 zku (zab (zad rfl) zak)) rt) (fun hb => ?_))
 rw [decide_eq_true rfl, decide_eq_true rfl] at hb
 cases hb
theorem zcs {G H₀ L : Hp} {ss : List Sl} {te : TE} {d d' : D} (a : Ev K G H₀ L ss te d) (h : d = d') : Ev K G H₀ L ss te d' := h ▸ a
theorem zc4 {n : Nat} (h : n <= 1000) : n <= sizeLine := by rw [sizeLine_eq]; omega
noncomputable def flds : List (List Nat) := [[110, 97, 109, 101], [102, 111, 114, 109, 101, 114], [119, 97, 121], [100, 97, 121], [109, 97, 114, 107]]
noncomputable def forL : List Nat := ("for" : Str).cps.toList
noncomputable def agL : List Nat := ("against" : Str).cps.toList
noncomputable def wayL (w : Int) : List Nat := if w < 0 then agL else forL
noncomputable def rowW (r : Rl) : List (List Nat) := [wayL r.2.2, numL r.2.2.natAbs, r.2.1, zai r.1]
noncomputable def rowL (r : Rl) : List Nat := glue [32] (rowW r)
theorem zlk {f : List Nat} {ls : List (List Nat)} : decide (D.str f ∈ ls.map D.str) = decide (f ∈ ls) := by
 congr 1
 rw [List.mem_map]
 apply propext
 exact ⟨fun ⟨g, hg, e⟩ => by injection e with e; rw [<- e]; exact hg, fun h => ⟨f, h, rfl⟩⟩
theorem ze3 : ∀ f ∈ flds, 32 ∉ f /\ 10 ∉ f /\ f.length <= 6 := by decide +kernel
theorem zdc : ∀ n : Nat, n < 5 -> 32 ∉ zai n /\ 10 ∉ zai n /\ (zai n).length <= 6 := by decide +kernel
theorem zhf (w : Int) : 32 ∉ wayL w /\ 10 ∉ wayL w /\ (wayL w).length <= 7 /\ (∀ c ∈ wayL w, c < 128) := by
 unfold wayL
 split <;> decide +kernel
noncomputable def RuOk (r : Rl) : Prop := ruOk r /\ r.2.1 ∈ flds /\ r.2.2 ≠ 0 /\ r.2.2.natAbs <= 1000000000
theorem zmd (n : Nat) (z : Nat) (hz : z < 48) : z ∉ numL n := fun h => by have := (zch n z h).1; omega
theorem zk1 {r : Rl} (h : RuOk r) : zb8 32 (rowL r) = rowW r := by
 obtain ⟨⟨h5, _⟩, hf, _⟩ := h
 unfold zb8 rowL
 refine zdt (by unfold rowW; simp) (fun p hp => ?_) ?_
 ·unfold rowW at hp
  simp only [List.mem_cons, List.not_mem_nil, or_false] at hp
  rcases hp with rfl | rfl | rfl | rfl
  ·exact (zhf _).1
  ·exact zmd _ 32 (by decide)
  ·exact (ze3 _ hf).1
  ·exact (zdc _ h5).1
 ·show 4 <= _
  have : (glue [32] (rowW r)).length ≥ 3 := by
   unfold rowW
   simp [glue]
   omega
  omega
theorem zh2 {r : Rl} (h : RuOk r) : (rowL r).length <= 40 := by
 obtain ⟨⟨h5, _⟩, hf, _, hn⟩ := h
 have a := (zhf r.2.2).2.2.1
 have b := zg1 hn
 have c := (ze3 _ hf).2.2
 have d := (zdc _ h5).2.2
 unfold rowL rowW
 simp [glue]
 omega
noncomputable def zo9 (c1 c2 c3 c4 c5 : Addr) (r : Rl) (ds : List D) : Prop := ds = [.str (rowL r)] /\ RuOk r
theorem zd5 (Z : Tx K mg ad0) : FnOk P w K mg base CX0 5 ad0.f_read_rule ad0.d_read_rule ["row"] (SpG K (zo9 ad0.c_Same ad0.c_Like ad0.c_Near ad0.c_Other ad0.c_Former) (insR ad0.c_Same ad0.c_Like ad0.c_Near ad0.c_Other ad0.c_Former)) := by
 have G_is_amount : FnOk P w K mg base CX0 4 ad0.f_is_amount ad0.d_is_amount ["word"] (SpD K znb fun _ => .bl true) := (zg3 Z).mono (by decide)
 have G_made_rule := zhd (P:=P) (w:=w) (base:=base) Z
 refine Z.F_read_rule.ok zcx (fun vs H Q E h => zcb (n:=1) (by rintro q ds ⟨rfl, _⟩; rfl) h) (fun cdv A outer s H vs Q E hr h => ⟨_, (zae (zbq (i:=1) zcx.nd rfl (Or.inl rfl) (ze8 F.plainAttrs_str F.slot_str_split F.type_str_split zit (pv 0) (zaa zan zaf)))
   (zae (zco (PW.pt (zib (za9 zos (za3 zcv (by rfl) Z.z_len boot_len (zaa (pv 1) zaf)) zau (zbj _)) (zgx (za9 (show OpR _ _ (rInD K true) from zgo hr.units) (zc7 (show IxR _ (rIxL K) from zb5) (pv 1) zau (fun _ _ => rfl)) (zj7 (zaa zan (zaa zan zaf))) (by with_unfolding_all rfl))))) (zag zf4) zbk)
   (zae (zco (PW.pt (zib (zd4 (zd9 (zbr G_is_amount (hr.mono (by decide)) (by rfl) Z.M_is_amount Z.F_is_amount.kp Z.B_is_amount .nil zcc (zaa (zc7 (show IxR _ (rIxL K) from zb5) (pv 1) zau (fun _ _ => rfl)) zaf)))) (zgx (za9 (show OpR _ _ (rInD K true) from zgo hr.units) (zc7 (show IxR _ (rIxL K) from zb5) (pv 1) zau (fun _ _ => rfl)) (zb9 (v:=.ref ad0.k_FIELDS) (by rfl) Z.M_FIELDS rfl) (by with_unfolding_all rfl))))) (zag zf4) zbk)
   (zae (zbq (i:=2) zcx.nd rfl (Or.inl rfl) (zcq (show zb2 _ _ zl1 from zga) (by rfl) Z.z_int boot_int (zaa (zc7 (show IxR _ (rIxL K) from zb5) (pv 1) zau (fun _ _ => rfl)) zaf)))
   (zag (za6 (zbr G_made_rule (hr.mono (by decide)) (by rfl) Z.M_made_rule Z.F_made_rule.kp Z.B_made_rule .nil zcc (zaa (ziz (za9 zcm (zc7 (show IxR _ (rIxL K) from zb5) (pv 1) zau (fun _ _ => rfl)) zan (zbj _)) (pv 2) (zpq zow (pv 2))) (zaa (zc7 (show IxR _ (rIxL K) from zb5) (pv 1) zau (fun _ _ => rfl)) (zaa (zc7 (show IxR _ (rIxL K) from zb5) (pv 1) zau (fun _ _ => rfl)) zaf)))))))))), ?_⟩)
 refine zhe h (by rw [zcb (n:=1) (by rintro q ds ⟨rfl, _⟩; rfl) h]; decide) fun G ds r hp rt => ?_
 obtain ⟨rfl, hR⟩ := hp
 have hs := zk1 hR
 have hl := zh2 hR
 obtain ⟨hru, hf, hw0, hw1⟩ := hR
 refine zay (zdl (ds:=(rowW r).map D.str) (by rw [<- hs]; exact zfg (zad rfl).b (zaq (l:=[32]) (by decide +kernel) (by decide)).b (by rw [sizeLine_eq]; omega)) fun p => zcf (i:=1) rfl ?_)
 ((try dsimp only); refine zbm ?_)
 have ix : ∀ {L0 : Hp} {ss : List Sl} (j : Int) (l : List Nat), ss[1]? = some (.d (.lst ((rowW r).map D.str))) -> atI ((rowW r).map D.str) j = some (.str l) -> Ev K G H L0 ss (tOp (rIxL K) (tVar 1) (tC (.int j))) (.str l) := fun j l e h => zhn (zad e).l za0.b h
 have hway : wayL r.2.2 = forL \/ wayL r.2.2 = agL := by unfold wayL; split; exact .inr rfl; exact .inl rfl
 refine zay (zcu (b:=(!decide ((((rowW r).map D.str).length : Int) = 4) || !decide (D.str (wayL r.2.2) ∈ [D.str forL, D.str agL]))) (ze5 (za7 (zmh (zh7 (zad rfl).l).b za0.b)) fun _ => za7 (zgr (ix 0 _ rfl rfl).b (zk6 (zab (zaq (l:=forL) (by decide +kernel) (by decide +kernel)) (zab (zaq (l:=agL) (by decide +kernel) (by decide +kernel)) zak)) (zc4 (by simp))).b rfl rfl (by simp [D.dep]))) (fun hb => ?_) (fun _ => zbl ?_))
 ·exfalso
  have e1 : decide ((((rowW r).map D.str).length : Int) = 4) = true := decide_eq_true rfl
  have e2 : decide (D.str (wayL r.2.2) ∈ [D.str forL, D.str agL]) = true := decide_eq_true (by rcases hway with h | h <;> rw [h] <;> simp)
  rw [e1, e2] at hb
  cases hb
 ((try dsimp only); refine zbm ?_)
 refine zay (zcu (b:=(!true || !decide (r.2.1 ∈ flds))) (ze5 (zct (zg0 (zh0 (pre:=znb) (res:=fun _ => .bl true) (zab (ix 1 _ rfl rfl) zak) ⟨_, rfl, by omega, hw1⟩))) fun _ => za7 (by
  rw [<- zlk]
  exact zgr (ix 2 _ rfl rfl).b (zl3 Z.K_FIELDS).b rfl (D.nbs_map (fun _ => rfl) flds) (by simp [D.dep]))) (fun hb => ?_) (fun _ => zbl ?_))
 ·rw [decide_eq_true hf] at hb
  cases hb
 ((try dsimp only); refine zbm ?_)
 obtain ⟨c, q, e, _⟩ := zhl r.2.2.natAbs (by omega)
 have hv : (((NumText.digitsVal (numL r.2.2.natAbs) : Nat)) : Int) = r.2.2.natAbs := by rw [zi0]
 refine zay (zck (d:=.int (r.2.2.natAbs : Int)) (by rw [<- hv]; exact zks (ix 1 _ rfl rfl).b (zch _) (by rw [e]; simp) (by have := zg1 hw1; omega)) ?_)
 ((try dsimp only); refine zbm ?_)
 refine zbu (zci r (zab (zmj (b:=decide (wayL r.2.2 = forL)) (za7 (zc1 (ix 0 _ rfl rfl).b (zaq (l:=forL) (by decide +kernel) (by decide +kernel)).b)) (fun hb => ?_) (fun hb => ?_)) (zab (ix 2 _ rfl rfl) (zab (ix 3 _ rfl rfl) zak))) ⟨rfl, hru⟩) rt
 ·have h : ((r.2.2.natAbs : Nat) : Int) = r.2.2 := by
   have := of_decide_eq_true hb
   unfold wayL at this
   split at this
   ·exact absurd this (by decide +kernel)
   ·omega
  exact zcs (zad rfl) (congrArg D.int h)
 ·have h : -((r.2.2.natAbs : Nat) : Int) = r.2.2 := by
   have := of_decide_eq_false hb
   unfold wayL at this
   split at this
   ·omega
   ·exact absurd rfl this
  exact zcs (zn8 (zad rfl).b) (congrArg D.int h)
noncomputable def zes (l : List Nat) : Bool := decide (zd6 [32].contains l = []) || decide (l.head? = some 35)
noncomputable def preL (ds : List D) : Prop := ∃ l, ds = [.str l] /\ l.length <= 1000000
noncomputable def zju : List D -> D
 | [.str l] => .bl (zes l)
 | _ => .non
theorem ze1 (Z : Tx K mg ad0) : FnOk P w K mg base CX0 1 ad0.f_is_passed_by ad0.d_is_passed_by ["row"] (SpD K preL zju) := by
 refine Z.F_is_passed_by.ok zel (fun vs H Q E h => zdv (n:=1) (by rintro ds ⟨c, rfl, _⟩; rfl) h) (fun cdv A outer s H vs Q E hr h => ⟨_, (zag (za6 (zp1 (zc5 zcm (ze8 F.plainAttrs_str F.slot_str_strip F.type_str_strip zkj (pv 0) (zaa zan zaf)) zan (zbj _)) (zik (ze8 F.plainAttrs_str F.slot_str_startswith F.type_str_startswith (show MtR _ _ zie from zfq) (pv 0) (zaa zan zaf)))))), ?_⟩)
 refine zkq h (by rw [zdv (n:=1) (by rintro ds ⟨c, rfl, _⟩; rfl) h]; decide) fun G ds hp rt => ?_
 obtain ⟨l, rfl, hl⟩ := hp
 have rt : RtD K G H Q (.bl (zes l)) := rt
 exact zbu (zpz (zc1 (zlh (zad rfl).b (zaq (l:=[32]) (by decide +kernel) (by decide)).b (by rw [sizeLine_eq]; omega)).b (zaq (l:=[]) (by decide +kernel) (by decide)).b) fun _ => zjo (zad rfl).b (zaq (l:=[35]) (by decide +kernel) (by decide)).b) rt
noncomputable def lnAt (l : List Nat) (i : Nat) : List Nat := (zb8 10 l).getD i []
noncomputable def zfx (l : List Nat) : List Nat := (List.range (zb8 10 l).length).filter fun i => !zes (lnAt l i)
noncomputable def numD (l : List Nat) (i : Nat) : D := .tup [.int ((i + 1 : Nat) : Int), .str (lnAt l i)]
noncomputable def zhp : List D -> List D
 | [.str l] => (zfx l).map (numD l)
 | _ => []
theorem zdi {z : Nat} : ∀ {n : Nat} {l p : List Nat}, p ∈ za8 z n l -> p.length <= l.length
 | 0, l, p, h => by rw [za8, List.mem_singleton] at h; subst h; exact Nat.le_refl _
 | n + 1, l, p, h => by
  rcases zcd (z:=z) l with ⟨h1, h2⟩ | ⟨b, h1, h2, h3⟩
  ·rw [za8, h1] at h
   have h : p ∈ [l] := h
   rw [List.mem_singleton] at h; subst h; exact Nat.le_refl _
  ·rw [za8, h1] at h
   have h : p ∈ l.takeWhile (· != z) :: za8 z n b := h
   have hl := congrArg List.length h2
   rw [List.length_append, List.length_cons] at hl
   rcases List.mem_cons.mp h with h | h
   ·subst h; omega
   ·have := zdi h; omega
theorem zgn (Z : Tx K mg ad0) : FnOk P w K mg base CX0 2 ad0.f_told_rows ad0.d_told_rows ["text"] (SpO K preL zhp) := by
 have G_is_passed_by := ze1 (P:=P) (w:=w) (base:=base) Z
 refine Z.F_told_rows.ok zd1 (fun vs H Q E h => zka (n:=1) (by rintro ds ⟨c, rfl, _⟩; rfl) h) (fun cdv A outer s H vs Q E hr h => ⟨_, (zae (zbq (i:=1) zd1.nd rfl (Or.inl rfl) (ze8 F.plainAttrs_str F.slot_str_split F.type_str_split zit (pv 0) (zaa zan zaf)))
   (zag (za6 (zlo rfl (LcOk.of (Nx:=(["text", "rows"] : List Str)) (sc:=zac za5) (N':=(["number", "row"] : List Str)) (nt:=2) (cs:=[]) rfl rfl (by decide +kernel)) (zll (by rfl) Z.z_enumerate (zaa (pv 1) zaf) zau) (fun _ _ _ _ => (show PG _ _ (gTup K 2 _) from zix rfl (zby (zbt (i:=0) (show List.Nodup (["number", "row"] : List Str) by decide +kernel) rfl (Or.inl rfl)) (zby (zbt (i:=1) (show List.Nodup (["number", "row"] : List Str) by decide +kernel) rfl (Or.inl rfl)) zft)))) (fun _ _ _ _ => (zl4 (zd4 (zd9 (zbr G_is_passed_by (hr.mono (by decide)) (by rfl) Z.M_is_passed_by Z.F_is_passed_by.kp Z.B_is_passed_by .nil zcc (zaa (pv 1) zaf)))))) (fun _ _ _ _ => (zj7 (zaa (pv 0) (zaa (pv 1) zaf)))))))), ?_⟩)
 refine zoo h (by rw [zka (n:=1) (by rintro ds ⟨c, rfl, _⟩; rfl) h]; decide) fun G ds hp rt => ?_
 obtain ⟨l, rfl, hl⟩ := hp
 refine zay (zdl (zfg (zad rfl).b (zaq (l:=[10]) (by decide +kernel) (by decide)).b (by rw [sizeLine_eq]; omega)) fun p => zcf (i:=1) rfl ?_)
 ((try dsimp only); refine zbm ?_)
 have hsl : (zb8 10 l).length <= l.length + 2 := zd0 10 _ l
 refine zhs (ds:=(zfx l).map (numD l)) ?_ rt
 have hn : ((zb8 10 l).map D.str).length = (zb8 10 l).length := List.length_map ..
 unfold zfx
 rw [<- hn]
 refine zfo (fun i => !zes (lnAt l i)) (numD l) (zkr (ds:=(zb8 10 l).map D.str) (zad rfl)) (zmr (zeh (zdm (by decide)) (zeh (zdm (by decide)) zkd))) (by decide) (by rw [List.length_map, sizeLine_eq]; omega) fun i hi => ?_
 rw [List.length_map] at hi
 have eg : ((zb8 10 l).map D.str).getD i .non = .str (lnAt l i) := by
  unfold lnAt
  rw [List.getD_eq_getElem?_getD, List.getD_eq_getElem?_getD, List.getElem?_map, List.getElem?_eq_getElem hi]; rfl
 have hm : lnAt l i ∈ zb8 10 l := by
  unfold lnAt
  rw [List.getD_eq_getElem?_getD, List.getElem?_eq_getElem hi]; exact List.getElem_mem _
 rw [eg]
 exact ⟨_, zim rfl (zb0 zbv (zb0 zbv zf0)), zct (zg0 (zh0 (pre:=preL) (res:=zju) (zab (zad rfl) zak) ⟨_, rfl, by have := zdi hm; omega⟩)), fun _ => zk6 (zab (zad rfl) (zab (zad rfl) zak)) (zc4 (by simp))⟩
noncomputable def zpy (c1 c2 c3 c4 c5 : Addr) (r : Rl) (ds : List D) : Prop := ∃ n : Int, ds = [.int n, .str (rowL r)] /\ RuOk r
theorem zea (Z : Tx K mg ad0) : FnOk P w K mg base CX0 6 ad0.f_numbered_rule ad0.d_numbered_rule ["number", "row"] (SpG K (zpy ad0.c_Same ad0.c_Like ad0.c_Near ad0.c_Other ad0.c_Former) (insR ad0.c_Same ad0.c_Like ad0.c_Near ad0.c_Other ad0.c_Former)) := by
 have G_read_rule := zd5 (P:=P) (w:=w) (base:=base) Z
 refine Z.F_numbered_rule.ok zec (fun vs H Q E h => zcb (n:=2) (by rintro x ds ⟨n, rfl, _⟩; rfl) h) (fun cdv A outer s H vs Q E hr h => ⟨_, (zag (zjh rfl (zag (za6 (zbr G_read_rule (hr.mono (by decide)) (by rfl) Z.M_read_rule Z.F_read_rule.kp Z.B_read_rule .nil zcc (zaa (pv 1) zaf)))))), ?_⟩)
 refine zhe h (by rw [zcb (n:=2) (by rintro x ds ⟨n, rfl, _⟩; rfl) h]; decide) fun G ds x hp rt => ?_
 obtain ⟨n, rfl, hx⟩ := hp
 exact zbu (zci x (zab (zad rfl) zak) ⟨rfl, hx⟩) rt
noncomputable abbrev Ln := List Nat × Option Rl
noncomputable def LnOk (p : Ln) : Prop := 10 ∉ p.1 /\ p.1.length <= 100 /\ match p.2 with
 | none => zes p.1 = true
 | some x => p.1 = rowL x /\ RuOk x
noncomputable def rulesOf (ls : List Ln) : List Rl := ls.filterMap fun p => p.2
noncomputable def txtOf (ls : List Ln) : List Nat := glue [10] (ls.map (·.1))
noncomputable def zpu (c1 c2 c3 c4 c5 : Addr) (ls : List Ln) (ds : List D) : Prop := ds = [.str (txtOf ls)] /\ ls ≠ [] /\ ls.length <= 400 /\ ∀ p ∈ ls, LnOk p
noncomputable def zp0 (c1 c2 c3 c4 c5 : Addr) (ls : List Ln) : List D := (rulesOf ls).map (insR c1 c2 c3 c4 c5)
theorem zli (x : Rl) : ∃ c t, rowL x = c :: t /\ (c = 102 \/ c = 97) := by
 have h : ∃ c t, wayL x.2.2 = c :: t /\ (c = 102 \/ c = 97) := by
  unfold wayL
  split
  ·exact ⟨97, agL.tail, by decide +kernel, .inr rfl⟩
  ·exact ⟨102, forL.tail, by decide +kernel, .inl rfl⟩
 obtain ⟨c, t, e, hc⟩ := h
 unfold rowL rowW
 rw [e]
 exact ⟨c, _, rfl, hc⟩
theorem zi2 {c : Nat} {t : List Nat} (h : c ≠ 32) : zd6 [32].contains (c :: t) ≠ [] := by
 unfold zd6
 have e : (c :: t).dropWhile [32].contains = c :: t := by
  rw [List.dropWhile_cons]
  simp [h]
 rw [e]
 intro z
 have z := List.reverse_eq_nil_iff.mp z
 have : c ∈ (c :: t).reverse := by simp
 have hs : ∀ l : List Nat, l.dropWhile [32].contains = [] -> ∀ x ∈ l, x = 32 := fun l => by
  induction l with
  | nil => intro _ x hx; cases hx
  | cons a l ih =>
   intro hl x hx
   rw [List.dropWhile_cons] at hl
   split at hl
   ·rename_i ha
    rcases List.mem_cons.mp hx with rfl | hx
    ·simpa using ha
    ·exact ih hl x hx
   ·cases hl
 exact h (hs _ z c this)
theorem zl7 (x : Rl) : zes (rowL x) = false := by
 obtain ⟨c, t, e, hc⟩ := zli x
 have hc2 : c ≠ 32 /\ c ≠ 35 := by omega
 unfold zes
 rw [e, decide_eq_false (zi2 hc2.1)]
 simp [hc2.2]
theorem zmq {ls : List (List Nat)} {n : Nat} (h : ∀ l ∈ ls, l.length <= n) : (ls.map List.length).sum <= n * ls.length := by
 induction ls with
 | nil => simp
 | cons a l ih =>
  have h1 := h a List.mem_cons_self
  have h2 := ih fun x hx => h x (List.mem_cons_of_mem _ hx)
  simp only [List.map_cons, List.sum_cons, List.length_cons]
  rw [Nat.mul_add]; omega
theorem zif (z : List Nat) : ∀ ls : List (List Nat), (glue z ls).length <= (ls.map List.length).sum + z.length * ls.length
 | [] => by simp [glue]
 | [a] => by simp [glue]
 | a :: b :: r => by
  have := zif z (b :: r)
  simp only [glue, List.length_append, List.map_cons, List.sum_cons, List.length_cons, Nat.mul_add, Nat.mul_one] at this ⊢
  omega
theorem zkx {ls : List Ln} (h : ∀ p ∈ ls, LnOk p) (hl : ls.length <= 400) : (txtOf ls).length <= 100000 := by
 unfold txtOf
 have h1 := zif [10] (ls.map (·.1))
 have h2 := zmq (ls:=ls.map (·.1)) (n:=100) (by intro l hm; obtain ⟨p, hp, rfl⟩ := List.mem_map.mp hm; exact (h p hp).2.1)
 simp only [List.length_map, List.length_cons, List.length_nil] at h1 h2
 omega
theorem zkp {ls : List Ln} (h : ∀ p ∈ ls, LnOk p) (h0 : ls ≠ []) : zb8 10 (txtOf ls) = ls.map (·.1) := by
 unfold zb8 txtOf
 refine zdt (by simpa using h0) (by intro q hq; obtain ⟨p, hp, rfl⟩ := List.mem_map.mp hq; exact (h p hp).1) ?_
 have : ∀ qs : List (List Nat), qs.length <= (glue [10] qs).length + 1 := fun qs => by
  induction qs with
  | nil => simp
  | cons a r ih =>
   cases r with
   | nil => simp
   | cons b r => simp only [glue, List.length_append, List.length_cons, List.length_nil] at ih ⊢; omega
 have := this (ls.map (·.1))
 omega
theorem zfs (Z : Tx K mg ad0) : FnOk P w K mg base CX0 7 ad0.f_read_rules ad0.d_read_rules ["text"] (SpGO K (zpu ad0.c_Same ad0.c_Like ad0.c_Near ad0.c_Other ad0.c_Former) (zp0 ad0.c_Same ad0.c_Like ad0.c_Near ad0.c_Other ad0.c_Former)) := by
 have G_told_rows : FnOk P w K mg base CX0 6 ad0.f_told_rows ad0.d_told_rows ["text"] (SpO K preL zhp) := (zgn Z).mono (by decide)
 have G_numbered_rule := zea (P:=P) (w:=w) (base:=base) Z
 refine Z.F_read_rules.ok zf2 (fun vs H Q E h => zei (n:=1) (by rintro x ds ⟨rfl, _⟩; rfl) h) (fun cdv A outer s H vs Q E hr h => ⟨_, (zag (za6 (zlo rfl (LcOk.of (Nx:=(["text"] : List Str)) (sc:=zac za1) (N':=(["number", "row"] : List Str)) (nt:=2) (cs:=[]) rfl rfl (by decide +kernel)) (zh5 (zbr G_told_rows (hr.mono (by decide)) (by rfl) Z.M_told_rows Z.F_told_rows.kp Z.B_told_rows .nil zcc (zaa (pv 0) zaf))) (fun _ _ _ _ => (show PG _ _ (gTup K 2 _) from zix rfl (zby (zbt (i:=0) (show List.Nodup (["number", "row"] : List Str) by decide +kernel) rfl (Or.inl rfl)) (zby (zbt (i:=1) (show List.Nodup (["number", "row"] : List Str) by decide +kernel) rfl (Or.inl rfl)) zft)))) (fun _ _ _ _ => zfy) (fun _ _ _ _ => (zbr G_numbered_rule (hr.mono (by decide)) (by rfl) Z.M_numbered_rule Z.F_numbered_rule.kp Z.B_numbered_rule .nil zcc (zaa (pv 0) (zaa (pv 1) zaf))))))), ?_⟩)
 refine zkb h (by rw [zei (n:=1) (by rintro x ds ⟨rfl, _⟩; rfl) h]; decide) fun G ds ls hp rt => ?_
 obtain ⟨rfl, h0, hl, hok⟩ := hp
 have hsp := zkp hok h0
 have htl := zkx hok hl
 generalize txtOf ls = tx at hsp htl
 have hln : ∀ i (hi : i < ls.length), lnAt tx i = (ls[i]).1 := fun i hi => by
  unfold lnAt
  rw [hsp, List.getD_eq_getElem?_getD, List.getElem?_map, List.getElem?_eq_getElem hi]; rfl
 have hmem : ∀ i ∈ zfx tx, ∃ x : Rl, lnAt tx i = rowL x /\ RuOk x /\ (ls.getD i ([], none)).2 = some x := fun i hi => by
  unfold zfx at hi
  obtain ⟨h1, h2⟩ := List.mem_filter.mp hi
  rw [List.mem_range, hsp, List.length_map] at h1
  rw [hln i h1] at h2 ⊢
  have ho := hok _ (List.getElem_mem h1)
  rw [List.getD_eq_getElem?_getD, List.getElem?_eq_getElem h1]
  show ∃ x : Rl, ls[i].1 = rowL x /\ RuOk x /\ ls[i].2 = some x
  obtain ⟨_, _, ho⟩ := ho
  cases e : ls[i].2 with
  | none =>
   rw [e] at ho
   have ho : zes ls[i].1 = true := ho
   rw [ho] at h2; cases h2
  | some x =>
   rw [e] at ho
   have ho : ls[i].1 = rowL x /\ RuOk x := ho
   exact ⟨x, ho.1, ho.2, rfl⟩
 let rw' : Nat -> Rl := fun i => ((ls.getD i ([], none)).2).getD (0, [], 0)
 have hfs : (zfx tx).map (fun i => rw' i) = rulesOf ls := by
  have key : ∀ (ms : List Ln) (off : Nat), (∀ p ∈ ms, LnOk p) -> (∀ j, j < ms.length -> ls[off + j]? = ms[j]?) -> off + ms.length = ls.length -> ((List.range' off ms.length).filter fun i => !zes (lnAt tx i)).map (fun i => rw' i) = rulesOf ms := by
   intro ms
   induction ms with
   | nil => intro off _ _ _; rfl
   | cons p ms ih =>
    intro off hms hat hlen
    have h1 := ih (off + 1) (fun q hq => hms q (List.mem_cons_of_mem _ hq)) (fun j hj => by rw [show off + 1 + j = off + (j + 1) by omega, hat (j + 1) (by simpa using hj)]; rfl) (by simp at hlen ⊢; omega)
    have hp := hms p List.mem_cons_self
    have hat0 : ls[off]? = some p := by have := hat 0 (by simp); simpa using this
    have hoff : off < ls.length := (List.getElem?_eq_some_iff.mp hat0).1
    have e0 : ls[off] = p := by rw [List.getElem?_eq_getElem hoff] at hat0; exact Option.some.inj hat0
    have el : lnAt tx off = p.1 := by rw [hln off hoff, e0]
    have er : rw' off = p.2.getD (0, [], 0) := by show ((ls.getD off ([], none)).2).getD _ = _; rw [List.getD_eq_getElem?_getD, hat0]; rfl
    rw [List.length_cons, List.range'_succ, List.filter_cons]
    obtain ⟨_, _, hp⟩ := hp
    cases e : p.2 with
    | none =>
     rw [e] at hp
     have hp : zes p.1 = true := hp
     rw [if_neg (by rw [el, hp]; decide), h1]
     unfold rulesOf
     rw [List.filterMap_cons, e]
    | some x =>
     rw [e] at hp
     have hp : p.1 = rowL x /\ RuOk x := hp
     rw [if_pos (by rw [el, hp.1, zl7 x]; rfl), List.map_cons, h1, er, e]
     unfold rulesOf
     rw [List.filterMap_cons, e]; rfl
  unfold zfx
  rw [hsp, List.length_map, List.range_eq_range']
  exact key ls 0 hok (fun j hj => by rw [Nat.zero_add]) (by omega)
 have hrl : (rulesOf ls).length <= 400 := by
  unfold rulesOf
  have := List.length_filterMap_le (fun p : Ln => p.2) ls
  omega
 have htn : (zfx tx).length <= 400 := by rw [<- hfs, List.length_map] at hrl; exact hrl
 have rt : RtO K G H Q ((rulesOf ls).map (insR ad0.c_Same ad0.c_Like ad0.c_Near ad0.c_Other ad0.c_Former)) := rt
 refine zhs ?_ rt
 rw [<- hfs, List.map_map]
 refine zkk (zfx tx) (numD tx) _ (EvO.l (zlq (pre:=preL) (res:=zhp) (zab (zad rfl) zak) ⟨tx, rfl, by omega⟩)) (zmr (zeh (zdm (by decide)) (zeh (zdm (by decide)) zkd))) (by decide) (by rw [sizeLine_eq]; omega) fun i hi => ?_
 obtain ⟨x, e1, e2, e3⟩ := hmem i hi
 refine ⟨_, zim rfl (zb0 zbv (zb0 zbv zf0)), ?_⟩
 have er : rw' i = x := by show ((ls.getD i ([], none)).2).getD _ = x; rw [e3]; rfl
 show Ev _ _ _ _ _ _ (insR ad0.c_Same ad0.c_Like ad0.c_Near ad0.c_Other ad0.c_Former (rw' i))
 rw [er]
 exact zci x (zab (zad rfl) (zab (by rw [<- e1]; exact zad rfl) zak)) ⟨_, rfl, e2⟩
theorem zok {r : Rl} (h : ruOk r) : fEf r = r.2.1 := by
 unfold fEf
 split
 ·rfl
 ·obtain ⟨h5, _, h4⟩ := h
  exact (h4 (by omega)).symm
noncomputable def zlg (c1 c2 c3 c4 c5 : Addr) (r : Rl) (ds : List D) : Prop := ds = [insR c1 c2 c3 c4 c5 r] /\ RuOk r
noncomputable def zob (r : Rl) : D := .str (rowL r)
theorem zg4 (Z : Tx K mg ad0) : FnOk P w K mg base CX0 2 ad0.f_show_rule ad0.d_show_rule ["rule"] (SpG K (zlg ad0.c_Same ad0.c_Like ad0.c_Near ad0.c_Other ad0.c_Former) zob) := by
 have G_Same_sort_word__Same := zg7 (P:=P) (w:=w) (base:=base) Z
 have G_Like_sort_word__Like := zg6 (P:=P) (w:=w) (base:=base) Z
 have G_Near_sort_word__Near := zgw (P:=P) (w:=w) (base:=base) Z
 have G_Other_sort_word__Other := zfu (P:=P) (w:=w) (base:=base) Z
 have G_Former_sort_word__Former := ze6 (P:=P) (w:=w) (base:=base) Z
 refine Z.F_show_rule.ok zd3 (fun vs H Q E h => zcb (n:=1) (by rintro q ds ⟨rfl, _⟩; rfl) h) (fun cdv A outer s H vs Q E hr h => ⟨_, (zae (zbq (i:=1) zd3.nd rfl (Or.inl rfl) (ziz (za9 zoz (ze0 (pv 0) (by rfl)) zau (zbj _)) zan zan))
   (zag (za6 (ze8 F.plainAttrs_str F.slot_str_join F.type_str_join zh9 zan (zaa (zcp (zaa (pv 1) (zaa (zcq (show zb2 _ _ zkt from ze4) (by rfl) Z.z_str boot_str (zaa (za3 zla (by rfl) Z.z_abs boot_abs (zaa (ze0 (pv 0) (by rfl)) zaf)) zaf)) (zaa (ze0 (pv 0) (by rfl)) (zaa (zky (pv 0) (zdh Z.Cl_Same Z.Me_Same_sort_word G_Same_sort_word__Same (hr.mono (by decide)) Z.B_Same_sort_word (zdh Z.Cl_Like Z.Me_Like_sort_word G_Like_sort_word__Like (hr.mono (by decide)) Z.B_Like_sort_word (zdh Z.Cl_Near Z.Me_Near_sort_word G_Near_sort_word__Near (hr.mono (by decide)) Z.B_Near_sort_word (zdh Z.Cl_Other Z.Me_Other_sort_word G_Other_sort_word__Other (hr.mono (by decide)) Z.B_Other_sort_word (zdh Z.Cl_Former Z.Me_Former_sort_word G_Former_sort_word__Former (hr.mono (by decide)) Z.B_Former_sort_word zm1))))) zcc) zaf))))) zaf))))), ?_⟩)
 refine zhe h (by rw [zcb (n:=1) (by rintro q ds ⟨rfl, _⟩; rfl) h]; decide) fun G ds r hp rt => ?_
 obtain ⟨rfl, hR⟩ := hp
 obtain ⟨c1, c2, c3⟩ := zkh Z r.1
 have hl := zh2 hR
 obtain ⟨hru, hf, hw0, hw1⟩ := hR
 have fw : ∀ {L0 : Hp} {ss : List Sl}, ss[0]? = some (.d (insR ad0.c_Same ad0.c_Like ad0.c_Near ad0.c_Other ad0.c_Former r)) -> Ev K G H L0 ss (tFld K (tVar 0) "weight") (.int r.2.2) := fun e => zfz (zad e) c1 c2 (.inl ⟨rfl, rfl⟩)
 have ff : ∀ {L0 : Hp} {ss : List Sl}, ss[0]? = some (.d (insR ad0.c_Same ad0.c_Like ad0.c_Near ad0.c_Other ad0.c_Former r)) -> Ev K G H L0 ss (tFld K (tVar 0) "field") (.str r.2.1) := fun e => by
  rw [<- zok hru]; exact zfz (zad e) c1 c3 (.inr ⟨by decide +kernel, rfl, rfl⟩)
 refine zay (zck (d:=.str (wayL r.2.2)) (zmj (b:=decide ((0 : Int) < r.2.2)) (za7 (zo3 (fw rfl).b za0.b)) (fun hb => ?_) (fun hb => ?_)) ?_)
 ·refine zcs (zaq (l:=forL) (by decide +kernel) (by decide +kernel)) (congrArg D.str ?_)
  unfold wayL
  rw [if_neg (by have := of_decide_eq_true hb; omega)]
 ·refine zcs (zaq (l:=agL) (by decide +kernel) (by decide +kernel)) (congrArg D.str ?_)
  unfold wayL
  rw [if_pos (by have := of_decide_eq_false hb; omega)]
 ((try dsimp only); refine zbm ?_)
 have ea : (if r.2.2 < 0 then -r.2.2 else r.2.2).toNat = r.2.2.natAbs := by split <;> omega
 have b1 := (zhf r.2.2).2.2.1
 have b2 := zg1 hw1
 have b3 := (ze3 _ hf).2.2
 have b4 := (zdc _ hru.1).2.2
 refine zbu (zh6 (ls:=rowW r) (zaq (l:=[32]) (by decide +kernel) (by decide)).b (EvO.l (zb7 (ds:=(rowW r).map D.str) (zab (zad rfl) (zab (zcs (zht (zno (fw rfl).b).b ?_ ?_) (by rw [ea])) (zab (ff rfl) (zab (znp _ _ _ _ _ hru.1 (zad rfl)) zak)))) (zc4 (by simp [rowW])))) (by simp [rowW]; omega)) rt
 ·split <;> omega
 ·have h2 : (10 : Int) ^ 10 = 10000000000 := by decide
  rw [h2]; split <;> omega
noncomputable def zov (n : Nat) : List D := [.bl (decide (n = 0)), .bl (decide (n = 1)), .bl (decide (n = 2)), .bl (decide (n = 3)), .bl (decide (n = 4))]
noncomputable def zop (r : Rl) : List D := zov r.1
theorem zjv (Z : Tx K mg ad0) (s : Nat) (hs : s < 5) : ITell K (cOf ad0.c_Same ad0.c_Like ad0.c_Near ad0.c_Other ad0.c_Former s) /\ PySem.W.kitOne K (.ref (cOf ad0.c_Same ad0.c_Like ad0.c_Near ad0.c_Other ad0.c_Former s)) (.ref ad0.c_Same) = some (decide (s = 0)) /\ PySem.W.kitOne K (.ref (cOf ad0.c_Same ad0.c_Like ad0.c_Near ad0.c_Other ad0.c_Former s)) (.ref ad0.c_Like) = some (decide (s = 1)) /\ PySem.W.kitOne K (.ref (cOf ad0.c_Same ad0.c_Like ad0.c_Near ad0.c_Other ad0.c_Former s)) (.ref ad0.c_Near) = some (decide (s = 2)) /\ PySem.W.kitOne K (.ref (cOf ad0.c_Same ad0.c_Like ad0.c_Near ad0.c_Other ad0.c_Former s)) (.ref ad0.c_Other) = some (decide (s = 3)) /\ PySem.W.kitOne K (.ref (cOf ad0.c_Same ad0.c_Like ad0.c_Near ad0.c_Other ad0.c_Former s)) (.ref ad0.c_Former) = some (decide (s = 4)) := by
 match s, hs with
 | 0, _ => exact ⟨Z.IT_Same, Z.I_Same_Same, Z.I_Same_Like, Z.I_Same_Near, Z.I_Same_Other, Z.I_Same_Former⟩
 | 1, _ => exact ⟨Z.IT_Like, Z.I_Like_Same, Z.I_Like_Like, Z.I_Like_Near, Z.I_Like_Other, Z.I_Like_Former⟩
 | 2, _ => exact ⟨Z.IT_Near, Z.I_Near_Same, Z.I_Near_Like, Z.I_Near_Near, Z.I_Near_Other, Z.I_Near_Former⟩
 | 3, _ => exact ⟨Z.IT_Other, Z.I_Other_Same, Z.I_Other_Like, Z.I_Other_Near, Z.I_Other_Other, Z.I_Other_Former⟩
 | 4, _ => exact ⟨Z.IT_Former, Z.I_Former_Same, Z.I_Former_Like, Z.I_Former_Near, Z.I_Former_Other, Z.I_Former_Former⟩
theorem zgb (Z : Tx K mg ad0) : FnOk P w K mg base CX0 1 ad0.f_law_sorts ad0.d_law_sorts ["_law_rule"] (SpGO K (zlg ad0.c_Same ad0.c_Like ad0.c_Near ad0.c_Other ad0.c_Former) zop) := by
 refine Z.F_law_sorts.ok zd2 (fun vs H Q E h => zei (n:=1) (by rintro x ds ⟨rfl, _⟩; rfl) h) (fun cdv A outer s H vs Q E hr h => ⟨_, (zae (zbq (i:=1) zd2.nd rfl (Or.inl rfl) (zcp (zaa (za3 (show zb2 _ _ (rIsI K) from zcy) (by rfl) Z.z_isinstance boot_isinstance (zaa (pv 0) (zaa (zb9 (v:=.ref ad0.c_Same) (by rfl) Z.M_Same rfl) zaf))) (zaa (za3 (show zb2 _ _ (rIsI K) from zcy) (by rfl) Z.z_isinstance boot_isinstance (zaa (pv 0) (zaa (zb9 (v:=.ref ad0.c_Like) (by rfl) Z.M_Like rfl) zaf))) (zaa (za3 (show zb2 _ _ (rIsI K) from zcy) (by rfl) Z.z_isinstance boot_isinstance (zaa (pv 0) (zaa (zb9 (v:=.ref ad0.c_Near) (by rfl) Z.M_Near rfl) zaf))) (zaa (za3 (show zb2 _ _ (rIsI K) from zcy) (by rfl) Z.z_isinstance boot_isinstance (zaa (pv 0) (zaa (zb9 (v:=.ref ad0.c_Other) (by rfl) Z.M_Other rfl) zaf))) zaf))))))
   (zag (za6 (zcg (show OpR _ _ (znn K) from zms) (pv 1) (zcp (zaa (za3 (show zb2 _ _ (rIsI K) from zcy) (by rfl) Z.z_isinstance boot_isinstance (zaa (pv 0) (zaa (zb9 (v:=.ref ad0.c_Former) (by rfl) Z.M_Former rfl) zaf))) zaf)))))), ?_⟩)
 refine zkb h (by rw [zei (n:=1) (by rintro x ds ⟨rfl, _⟩; rfl) h]; decide) fun G ds r hp rt => ?_
 obtain ⟨rfl, ⟨h5, _⟩, _⟩ := hp
 obtain ⟨c1, _⟩ := zkh Z r.1
 obtain ⟨t0, t1, t2, t3, t4, t5⟩ := zjv Z r.1 h5
 refine zay (zdl (ds:=[.bl (decide (r.1 = 0)), .bl (decide (r.1 = 1)), .bl (decide (r.1 = 2)), .bl (decide (r.1 = 3))]) (zb7 (zab (zfi (zad rfl) c1 t0 (.inl ⟨_, rfl, rfl⟩) t1) (zab (zfi (zad rfl) c1 t0 (.inl ⟨_, rfl, rfl⟩) t2) (zab (zfi (zad rfl) c1 t0 (.inl ⟨_, rfl, rfl⟩) t3) (zab (zfi (zad rfl) c1 t0 (.inl ⟨_, rfl, rfl⟩) t4) zak)))) (zc4 (by simp))) fun p => zcf (i:=1) rfl ?_)
 ((try dsimp only); refine zbm ?_)
 have rt : RtO K G H Q ([D.bl (decide (r.1 = 0)), D.bl (decide (r.1 = 1)), D.bl (decide (r.1 = 2)), D.bl (decide (r.1 = 3))] ++ [D.bl (decide (r.1 = 4))]) := rt
 exact zhs (zm5 (zad rfl).l (EvO.l (zb7 (ds:=[.bl (decide (r.1 = 4))]) (zab (zfi (zad rfl) c1 t0 (.inl ⟨_, rfl, rfl⟩) t5) zak) (zc4 (by simp)))) (by rw [sizeLine_eq]; simp)) rt
theorem zfp {α : Type} (xs : List α) (z : α) (x : Int) {n : Int} (hn : (xs.length : Int) = n) (h0 : 0 < n) : atI xs (x % n) = some (xs.getD (x % n).toNat z) := by
 have h1 := Int.emod_nonneg x (show n ≠ 0 by omega)
 have h2 := Int.emod_lt_of_pos x h0
 have := zj6 (xs:=xs) (j:=(x % n).toNat) (v:=xs.getD (x % n).toNat z) (by rw [List.getD_eq_getElem?_getD, List.getElem?_eq_getElem (by omega)]; rfl)
 rw [show (((x % n).toNat : Nat) : Int) = x % n by omega] at this
 exact this
noncomputable def dueD (r : Rl) : D := .tup [.str (rowL r), .int r.2.2, .str r.2.1, .str (zai r.1)]
noncomputable def zor (ds : List D) : Prop := ∃ c : Int, ds = [.int c]
noncomputable def zpl (ds : List D) (d : D) : Prop := ∃ r : Rl, RuOk r /\ d = dueD r
noncomputable def zem : List (List Nat) := [zai 0, zai 1, zai 2, zai 3, zai 4]
theorem zki (c : Int) : atI (zem.map D.str) (c % 5) = some (.str (zai (c % 5).toNat)) := by
 have h := zfp (zem.map D.str) .non c (n:=5) rfl (by decide)
 rw [h]
 have hc : (c % 5).toNat < 5 := by omega
 congr 1
 generalize (c % 5).toNat = n at hc
 exact (show ∀ n : Nat, n < 5 -> (zem.map D.str).getD n .non = .str (zai n) from fun n hn => by
  match n, hn with
  | 0, _ => rfl
  | 1, _ => rfl
  | 2, _ => rfl
  | 3, _ => rfl
  | 4, _ => rfl) n hc
theorem znd (c : Int) : ∃ f, f ∈ flds /\ atI (flds.map D.str) (c % 5) = some (.str f) := by
 have h := zfp (flds.map D.str) .non c (n:=5) rfl (by decide)
 have hc : (c % 5).toNat < flds.length := by show _ < 5; omega
 refine ⟨flds[(c % 5).toNat], List.getElem_mem _, ?_⟩
 rw [h, List.getD_eq_getElem?_getD, List.getElem?_map, List.getElem?_eq_getElem hc]; rfl
noncomputable def zhx : List Int := [1, 10 ^ 9, 10, 100000]
theorem znt (c : Int) : ∃ n : Int, 1 <= n /\ n <= 1000000000 /\ atI (zhx.map D.int) (c % 4) = some (.int n) := by
 have h := zfp (zhx.map D.int) .non c (n:=4) rfl (by decide)
 have hc : (c % 4).toNat < zhx.length := by show _ < 4; omega
 refine ⟨zhx[(c % 4).toNat], ?_, ?_, ?_⟩
 ·exact (show ∀ n ∈ zhx, 1 <= n /\ n <= 1000000000 by decide) _ (List.getElem_mem hc) |>.1
 ·exact (show ∀ n ∈ zhx, 1 <= n /\ n <= 1000000000 by decide) _ (List.getElem_mem hc) |>.2
 ·rw [h, List.getD_eq_getElem?_getD, List.getElem?_map, List.getElem?_eq_getElem hc]; rfl
theorem zn6 : ∀ f ∈ flds, ∀ c ∈ f, c < 128 := by decide +kernel
theorem zjk (Z : Tx K mg ad0) : FnOk P w K mg base CX0 1 ad0.f_law_row ad0.d_law_row ["_law_cell"] (SpRD K zor zpl) := by
 refine Z.F_law_row.ok zbh (fun vs H Q E h => zin (n:=1) (by rintro ds ⟨c, rfl⟩; rfl) h) (fun cdv A outer s H vs Q E hr h => ⟨_, (zae (zbq (i:=1) zbh.nd rfl (Or.inl rfl) (zcg zpo zau (zcg zdy (zcg zdk (pv 0) zau) (zcg zmm zau zau))))
   (zae (zco (za9 zcm (zcg zdy (zcg zdk (pv 0) zau) zau) zau (zbj _)) (zag (zbq (i:=1) zbh.nd rfl (Or.inl rfl) (zc7 (show IxR _ (rIxL K) from zb5) (zcp (zaa zau (zaa (zcg zmm zau zau) (zaa zau (zaa zau zaf))))) (zcg zdy (zcg zdk (pv 0) zau) zau) (fun _ _ => rfl)))) zbk)
   (zae (zbq (i:=2) zbh.nd rfl (Or.inl rfl) (zc7 (show IxR _ (rIxL K) from zb5) (zcp (zaa zan (zaa zan (zaa zan (zaa zan (zaa zan zaf)))))) (zcg zdy (zcg zdk (pv 0) zau) zau) (fun _ _ => rfl)))
   (zae (zbq (i:=3) zbh.nd rfl (Or.inl rfl) (zc7 (show IxR _ (rIxL K) from zb5) (zcp (zaa zan (zaa zan (zaa zan (zaa zan (zaa zan zaf)))))) (zcg zdy (zcg zdk (pv 0) zau) zau) (fun _ _ => rfl)))
   (zae (zco (za9 zcm (pv 2) zan (zbj _)) (zag (zbq (i:=3) zbh.nd rfl (Or.inl rfl) zan)) zbk)
   (zae (zbq (i:=4) zbh.nd rfl (Or.inl rfl) (pv 1))
   (zae (zbq (i:=5) zbh.nd rfl (Or.inl rfl) zan)
   (zae (zco (za9 zcm (zcg zdy (pv 0) zau) zau (zbj _)) (zae (zbq (i:=5) zbh.nd rfl (Or.inl rfl) zan)
   (zag (zbq (i:=4) zbh.nd rfl (Or.inl rfl) (zcg zpc zau (pv 1))))) zbk)
   (zag (za6 (zj7 (zaa (ze8 F.plainAttrs_str F.slot_str_join F.type_str_join zh9 zan (zaa (zcp (zaa (pv 5) (zaa (zcq (show zb2 _ _ zkt from ze4) (by rfl) Z.z_str boot_str (zaa (pv 1) zaf)) (zaa (pv 3) (zaa (pv 2) zaf))))) zaf)) (zaa (pv 4) (zaa (pv 3) (zaa (pv 2) zaf))))))))))))))), ?_⟩)
 refine zn3 h (by rw [zin (n:=1) (by rintro ds ⟨c, rfl⟩; rfl) h]; decide) fun G ds hp rt => ?_
 obtain ⟨c, rfl⟩ := hp
 have p9 : ∀ {L0 : Hp} {ss : List Sl}, Ev K G H L0 ss (tOp (rI CPow fun i j => .int (i ^ j.toNat)) (tC (.int 10)) (tC (.int 9))) (.int 1000000000) := zcs (zon za0.b za0.b ⟨by decide, by decide, by decide⟩) (congrArg D.int (by decide))
 refine zay (zck (d:=.int (1 + c / 50 % 1000000000)) (zog za0.b (zd8 (zdn (zad rfl).b za0.b ⟨by decide, by decide⟩).b p9.b (by decide)).b) ?_)
 ((try dsimp only); refine zbm ?_)
 refine zf1 (fun ss => ∃ n : Int, ss = [.d (.int c), .d (.int n), .un, .un, .un, .un] /\ 1 <= n /\ n <= 1000000000) (fun N hN => zcu (za7 (zil (zd8 (zdn (zad rfl).b za0.b ⟨by decide, by decide⟩).b za0.b (by decide)).b za0.b)) (fun hb => ?_) (fun hb => zbl (hN _ ⟨1 + c / 50 % 1000000000, rfl, by omega, by omega⟩))) ?_
 ·obtain ⟨n, h1, h2, h3⟩ := znt (c / 200)
  exact zck (zhn (EvO.l (zb7 (ds:=zhx.map D.int) (zab za0 (zab (zcs p9 (congrArg D.int (by decide))) (zab za0 (zab za0 zak)))) (zc4 (by decide)))) (zd8 (zdn (zad rfl).b za0.b ⟨by decide, by decide⟩).b za0.b (by decide)).b h3) (hN _ ⟨n, rfl, h1, h2⟩)
 rintro ss ⟨n, rfl, hn1, hn2⟩
 refine zay (zck (d:=.str (zai (c / 2 % 5).toNat)) (zhn (EvO.l (zb7 (ds:=zem.map D.str) (zab (zaq (by decide +kernel) (by decide +kernel)) (zab (zaq (by decide +kernel) (by decide +kernel)) (zab (zaq (by decide +kernel) (by decide +kernel)) (zab (zaq (by decide +kernel) (by decide +kernel)) (zab (zaq (by decide +kernel) (by decide +kernel)) zak))))) (zc4 (by decide)))) (zd8 (zdn (zad rfl).b za0.b ⟨by decide, by decide⟩).b za0.b (by decide)).b (zki _)) ?_)
 ((try dsimp only); refine zbm ?_)
 obtain ⟨f, hf, ef⟩ := znd (c / 10)
 refine zay (zck (d:=.str f) (zhn (EvO.l (zb7 (ds:=flds.map D.str) (zab (zaq (by decide +kernel) (by decide +kernel)) (zab (zaq (by decide +kernel) (by decide +kernel)) (zab (zaq (by decide +kernel) (by decide +kernel)) (zab (zaq (by decide +kernel) (by decide +kernel)) (zab (zaq (by decide +kernel) (by decide +kernel)) zak))))) (zc4 (by decide)))) (zd8 (zdn (zad rfl).b za0.b ⟨by decide, by decide⟩).b za0.b (by decide)).b ef) ?_)
 ((try dsimp only); refine zbm ?_)
 have hs5 : (c / 2 % 5).toNat < 5 := by omega
 generalize (c / 2 % 5).toNat = s at hs5
 refine zf1 (fun ss => ∃ g, ss = [.d (.int c), .d (.int n), .d (.str (zai s)), .d (.str g), .un, .un] /\ g ∈ flds /\ (s = 4 -> g = nmL)) (fun N hN => zcu (za7 (zc1 (zad rfl).b (zaq (l:=zai 4) (by decide +kernel) (zg9 4 (by decide))).b)) (fun hb => zck (zaq (l:=nmL) znv.symm zku) (hN _ ⟨nmL, rfl, by decide +kernel, fun _ => rfl⟩)) (fun hb => zbl (hN _ ⟨f, rfl, hf, fun h => absurd (by rw [h]) (of_decide_eq_false hb)⟩))) ?_
 rintro ss ⟨g, rfl, hg, hg4⟩
 refine zay (zck (d:=.int n) (zad rfl) ?_)
 ((try dsimp only); refine zbm ?_)
 refine zay (zck (d:=.str forL) (zaq (by decide +kernel) (by decide +kernel)) ?_)
 ((try dsimp only); refine zbm ?_)
 refine zf1 (fun ss => ∃ w : Int, ss = [.d (.int c), .d (.int n), .d (.str (zai s)), .d (.str g), .d (.int w), .d (.str (wayL w))] /\ w.natAbs = n.toNat /\ w ≠ 0) (fun N hN => zcu (za7 (zil (zd8 (zad rfl).b za0.b (by decide)).b za0.b)) (fun hb => ?_) (fun hb => zbl (hN _ ⟨n, by rw [wayL, if_neg (by omega)]; rfl, by omega, by omega⟩))) ?_
 ·refine zay (zck (d:=.str agL) (zaq (by decide +kernel) (by decide +kernel)) ?_)
  ((try dsimp only); refine zbm ?_)
  exact zck (zoy za0.b (zad rfl).b) (hN _ ⟨0 - n, by rw [wayL, if_pos (by omega)]; rfl, by omega, by omega⟩)
 rintro ss ⟨wt, rfl, hw, hw0⟩
 have b1 := (zhf wt).2.2.1
 have b2 := zg1 (n:=wt.natAbs) (by omega)
 have b3 := (ze3 _ hg).2.2
 have b4 := (zdc _ hs5).2.2
 have h10 : (10 : Int) ^ 10 = 10000000000 := by decide
 exact zbu (zk6 (zab (zh6 (ls:=rowW (s, g, wt)) (zaq (l:=[32]) (by decide +kernel) (by decide)).b (EvO.l (zb7 (ds:=(rowW (s, g, wt)).map D.str) (zab (zad rfl) (zab (zcs (zht (zad rfl).b (by omega) (by omega)) (by rw [<- hw])) (zab (zad rfl) (zab (zad rfl) zak)))) (zc4 (by simp [rowW])))) (by simp [rowW]; omega)) (zab (zad rfl) (zab (zad rfl) (zab (zad rfl) zak)))) (zc4 (by simp))) (rt _ ⟨(s, g, wt), ⟨⟨hs5, zn6 g hg, hg4⟩, hg, hw0, by show wt.natAbs <= _; omega⟩, rfl⟩)
noncomputable def zns (c1 c2 c3 c4 c5 : Addr) (r : Rl) (ds : List D) : Prop := ds = [insR c1 c2 c3 c4 c5 r, dueD r] /\ RuOk r
noncomputable def zmc (n : Nat) : List Bool := [decide (n = 0), decide (n = 1), decide (n = 2), decide (n = 3), decide (n = 4)]
theorem zko (n : Nat) (h : n < 5) : (zem.map fun x => D.bl (decide (zai n = x))) = (zmc n).map D.bl := by
 have e : ∀ m, m < 5 -> decide (zai n = zai m) = decide (n = m) := fun m hm => by
  rw [Bool.eq_iff_iff, decide_eq_true_iff, decide_eq_true_iff]; exact zce n h m hm
 show [D.bl (decide (zai n = zai 0)), D.bl (decide (zai n = zai 1)), D.bl (decide (zai n = zai 2)), D.bl (decide (zai n = zai 3)), D.bl (decide (zai n = zai 4))] = _
 rw [e 0 (by decide), e 1 (by decide), e 2 (by decide), e 3 (by decide), e 4 (by decide)]; rfl
theorem znr (Z : Tx K mg ad0) (s : Nat) : PySem.W.kitOne K (.ref (cOf ad0.c_Same ad0.c_Like ad0.c_Near ad0.c_Other ad0.c_Former s)) (.ref ad0.c_Rule) = some true := by
 match s with
 | 0 => exact Z.I_Same_Rule
 | 1 => exact Z.I_Like_Rule
 | 2 => exact Z.I_Near_Rule
 | 3 => exact Z.I_Other_Rule
 | _ + 4 => exact Z.I_Former_Rule
theorem zhu (Z : Tx K mg ad0) : FnOk P w K mg base CX0 3 ad0.f_law_good ad0.d_law_good ["_law_rule", "_law_due"] (SpG K (zns ad0.c_Same ad0.c_Like ad0.c_Near ad0.c_Other ad0.c_Former) fun _ => .bl true) := by
 have G_law_whole : FnOk P w K mg base CX0 2 ad0.f_law_whole ad0.d_law_whole ["_law_found"] (SpD K (fun ds => ∃ c : Int, ds = [.int c]) fun _ => .bl true) := (zf6 Z).mono (by decide)
 have G_law_sorts : FnOk P w K mg base CX0 2 ad0.f_law_sorts ad0.d_law_sorts ["_law_rule"] (SpGO K (zlg ad0.c_Same ad0.c_Like ad0.c_Near ad0.c_Other ad0.c_Former) zop) := (zgb Z).mono (by decide)
 have G_show_rule := zg4 (P:=P) (w:=w) (base:=base) Z
 refine Z.F_law_good.ok zbx (fun vs H Q E h => zcb (n:=2) (by rintro q ds ⟨rfl, _⟩; rfl) h) (fun cdv A outer s H vs Q E hr h => ⟨_, (zae (zpb (pv 1) (zix rfl (zby (zbt (i:=2) zbx.nd rfl (Or.inl rfl)) (zby (zbt (i:=3) zbx.nd rfl (Or.inl rfl)) (zby (zbt (i:=4) zbx.nd rfl (Or.inl rfl)) (zby (zbt (i:=5) zbx.nd rfl (Or.inr rfl)) zft))))))
   (zae (zco (PW.pt (zib (zd4 (zd9 (za3 (show zb2 _ _ (rIsI K) from zcy) (by rfl) Z.z_isinstance boot_isinstance (zaa (pv 0) (zaa (zb9 (v:=.ref ad0.c_Rule) (by rfl) Z.M_Rule rfl) zaf))))) (zib (zd4 (zd9 (zbr G_law_whole (hr.mono (by decide)) (by rfl) Z.M_law_whole Z.F_law_whole.kp Z.B_law_whole .nil zcc (zaa (ze0 (pv 0) (by rfl)) zaf)))) (zgx (zd4 (zd9 (za3 zcj (by rfl) Z.z_isinstance boot_isinstance (zaa (ze0 (pv 0) (by rfl)) (zaa (zex (v:=.ty "str") (by rfl) Z.z_str boot_str rfl) zaf))))))))) (zag (za6 zhw)) zbk)
   (zae (zco (za9 (show OpR _ _ (rNeB K) from zoa hr.units) (zbr G_law_sorts (hr.mono (by decide)) (by rfl) Z.M_law_sorts Z.F_law_sorts.kp Z.B_law_sorts .nil zcc (zaa (pv 0) zaf)) (zlo rfl (LcOk.of (Nx:=(["_law_rule", "_law_due", "_law_row_here", "_law_weight", "_law_field", "_law_sort", "_law_found"] : List Str)) (sc:=zac zbi) (N':=(["_law_one", "_law_sort"] : List Str)) (nt:=1) (cs:=[5]) rfl rfl (by decide +kernel)) (zh5 (zcp (zaa zan (zaa zan (zaa zan (zaa zan (zaa zan zaf))))))) (fun _ _ _ _ => (zbt (i:=0) (show List.Nodup (["_law_one", "_law_sort"] : List Str) by decide +kernel) rfl (Or.inl rfl))) (fun _ _ _ _ => zfy) (fun _ _ _ _ => (zc5 zcm (pv 1) (pv 0) (zbj _)))) (zbj _)) (zag (za6 zhw)) zbk)
   (zae (zbq (i:=6) zbx.nd rfl (Or.inl rfl) (zbr G_show_rule (hr.mono (by decide)) (by rfl) Z.M_show_rule Z.F_show_rule.kp Z.B_show_rule .nil zcc (zaa (pv 0) zaf)))
   (zag (za6 (zha (zc5 zcm (ze0 (pv 0) (by rfl)) (pv 3) (zbj _)) (zha (zc5 zcm (ze0 (pv 0) (by rfl)) (pv 4) (zbj _)) (zha (za3 zcj (by rfl) Z.z_isinstance boot_isinstance (zaa (pv 6) (zaa (zex (v:=.ty "str") (by rfl) Z.z_str boot_str rfl) zaf))) (zik (zc5 zcm (pv 6) (pv 2) (zbj _)))))))))))), ?_⟩)
 refine zhe h (by rw [zcb (n:=2) (by rintro q ds ⟨rfl, _⟩; rfl) h]; decide) fun G ds r hp rt => ?_
 obtain ⟨rfl, hR⟩ := hp
 obtain ⟨c1, c2, c3⟩ := zkh Z r.1
 obtain ⟨t0, _⟩ := zjv Z r.1 hR.1.1
 have fw : ∀ {L0 : Hp} {ss : List Sl}, ss[0]? = some (.d (insR ad0.c_Same ad0.c_Like ad0.c_Near ad0.c_Other ad0.c_Former r)) -> Ev K G H L0 ss (tFld K (tVar 0) "weight") (.int r.2.2) := fun e => zfz (zad e) c1 c2 (.inl ⟨rfl, rfl⟩)
 have ff : ∀ {L0 : Hp} {ss : List Sl}, ss[0]? = some (.d (insR ad0.c_Same ad0.c_Like ad0.c_Near ad0.c_Other ad0.c_Former r)) -> Ev K G H L0 ss (tFld K (tVar 0) "field") (.str r.2.1) := fun e => by
  rw [<- zok hR.1]; exact zfz (zad e) c1 c3 (.inr ⟨by decide +kernel, rfl, rfl⟩)
 refine zay (zou (d:=dueD r) (zad rfl) (zim rfl (zb0 zbv (zb0 zbv (zb0 zbv (zb0 zbv zf0))))) ?_)
 ((try dsimp only); refine zbm ?_)
 refine zay (zcu (b:=(!true || (!true || !true))) (ze5 (zct (zg0 (zfi (zad rfl) c1 t0 (.inl ⟨_, rfl, rfl⟩) (znr Z r.1)))) fun _ => ze5 (zct (zg0 (zh0 (pre:=fun ds => ∃ c : Int, ds = [.int c]) (res:=fun _ => .bl true) (zab (fw rfl) zak) ⟨_, rfl⟩))) fun _ => zct (zg0 (zmk (ff rfl).b))) (fun hb => by cases hb) (fun _ => zbl ?_))
 ((try dsimp only); refine zbm ?_)
 refine zay (zcu (b:=false) (za7 (zm8 (zmc r.1) (Ev.b (EvO.ev ?_)) (Ev.b (EvO.ev ?_)))) (fun hb => by cases hb) (fun _ => zbl ?_))
 ·exact zfl r (zab (zad rfl) zak) ⟨rfl, hR⟩
 ·rw [<- zko _ hR.1.1]
  exact zkk zem D.str _ (EvO.l (zb7 (ds:=zem.map D.str) (zab (zaq (by decide +kernel) (by decide +kernel)) (zab (zaq (by decide +kernel) (by decide +kernel)) (zab (zaq (by decide +kernel) (by decide +kernel)) (zab (zaq (by decide +kernel) (by decide +kernel)) (zab (zaq (by decide +kernel) (by decide +kernel)) zak))))) (zc4 (by decide)))) (zdm (by decide)) (by decide) (by rw [sizeLine_eq]; decide) fun x hx => ⟨_, zbv, zc1 (zad rfl).b (zad rfl).b⟩
 ((try dsimp only); refine zbm ?_)
 refine zay (zck (d:=.str (rowL r)) (zci (pre:=zlg ad0.c_Same ad0.c_Like ad0.c_Near ad0.c_Other ad0.c_Former) (res:=zob) r (zab (zad rfl) zak) ⟨rfl, hR⟩) ?_)
 ((try dsimp only); refine zbm ?_)
 have e1 := zil (K:=K) (G:=G) (H₀:=H) (L:=G) (ss:=[.d (insR ad0.c_Same ad0.c_Like ad0.c_Near ad0.c_Other ad0.c_Former r), .d (dueD r), .d (.str (rowL r)), .d (.int r.2.2), .d (.str r.2.1), .d (.str (zai r.1)), .d (.str (rowL r))]) (fw rfl).b (zad (i:=3) rfl).b
 have e2 := zc1 (K:=K) (G:=G) (H₀:=H) (L:=G) (ss:=[.d (insR ad0.c_Same ad0.c_Like ad0.c_Near ad0.c_Other ad0.c_Former r), .d (dueD r), .d (.str (rowL r)), .d (.int r.2.2), .d (.str r.2.1), .d (.str (zai r.1)), .d (.str (rowL r))]) (ff rfl).b (zad (i:=4) rfl).b
 have e3 := zc1 (K:=K) (G:=G) (H₀:=H) (L:=G) (ss:=[.d (insR ad0.c_Same ad0.c_Like ad0.c_Near ad0.c_Other ad0.c_Former r), .d (dueD r), .d (.str (rowL r)), .d (.int r.2.2), .d (.str r.2.1), .d (.str (zai r.1)), .d (.str (rowL r))]) (zad (i:=6) rfl).b (zad (i:=2) rfl).b
 rw [decide_eq_true rfl] at e1 e2 e3
 exact zbu (zgy e1 fun _ => zgy e2 fun _ => zgy (zmk (zad rfl).b) fun _ => e3) rt
noncomputable def zly (K : PySem.W.Frag) : Sp := fun vs H Q _ => ∃ (a : Addr) (ns : List Int), vs = [.ref a] /\ SqL K H a (ns.map V.int) /\ ns.length <= 63 /\ ∀ H', Q (.bl true) H'
theorem zhi {K : PySem.W.Frag} {H : Hp} : ∀ ns : List Int, Reps K H (ns.map D.int) (ns.map V.int)
 | [] => Reps.nil
 | n :: ns => Reps.cons Rep.int (zhi ns)
noncomputable def lnD (p : Ln) : D := .str p.1
noncomputable def zfc : List (List Nat) := [[], [32], [32, 32, 32, 32], [35], ("# for 5 name same" : Str).cps.toList]
theorem zij : ∀ l ∈ zfc, LnOk (l, none) := by
 intro l hl
 refine ⟨?_, ?_, ?_⟩
 ·exact (show ∀ l ∈ zfc, 10 ∉ l by decide +kernel) l hl
 ·exact (show ∀ l ∈ zfc, l.length <= 100 by decide +kernel) l hl
 ·exact (show ∀ l ∈ zfc, zes l = true by decide +kernel) l hl
theorem zlc (c : Int) : ∃ l, l ∈ zfc /\ atI (zfc.map D.str) (c % 5) = some (.str l) := by
 have h := zfp (zfc.map D.str) .non c (n:=5) rfl (by decide)
 have hc : (c % 5).toNat < zfc.length := by show _ < 5; omega
 refine ⟨zfc[(c % 5).toNat], List.getElem_mem _, ?_⟩
 rw [h, List.getD_eq_getElem?_getD, List.getElem?_map, List.getElem?_eq_getElem hc]; rfl
theorem ziq {z : List Nat} {c : Nat} : ∀ {ls : List (List Nat)}, c ∈ glue z ls -> c ∈ z \/ ∃ l ∈ ls, c ∈ l
 | [], h => by simp [glue] at h
 | [a], h => by simp [glue] at h; exact .inr ⟨a, by simp, h⟩
 | a :: b :: r, h => by
  simp only [glue, List.mem_append] at h
  rcases h with (h | h) | h
  ·exact .inr ⟨a, by simp, h⟩
  ·exact .inl h
  ·rcases ziq h with h | ⟨l, h1, h2⟩
   ·exact .inl h
   ·exact .inr ⟨l, List.mem_cons_of_mem _ h1, h2⟩
theorem zn0 {r : Rl} (h : RuOk r) : LnOk (rowL r, some r) := by
 refine ⟨fun z => ?_, by have := zh2 h; show (rowL r).length <= 100; omega, rfl, h⟩
 have z : 10 ∈ glue [32] (rowW r) := z
 obtain ⟨⟨h5, _⟩, hf, _⟩ := h
 rcases ziq z with z | ⟨l, h1, z⟩
 ·simp at z
 ·unfold rowW at h1
  simp only [List.mem_cons, List.not_mem_nil, or_false] at h1
  rcases h1 with rfl | rfl | rfl | rfl
  ·exact (zhf _).2.1 z
  ·exact zmd _ 10 (by decide) z
  ·exact (ze3 _ hf).2.1 z
  ·exact (zdc _ h5).2.1 z
theorem zcn (a b : List Ln) : rulesOf (a ++ b) = rulesOf a ++ rulesOf b := List.filterMap_append
theorem zod (Z : Tx K mg ad0) : FnOk P w K mg base CX0 21 ad0.f_law ad0.d_law ["_law_script"] (zly K) := by
 have G_law_row := zjk (P:=P) (w:=w) (base:=base) Z
 have G_law_good := zhu (P:=P) (w:=w) (base:=base) Z
 have G_read_rule := zd5 (P:=P) (w:=w) (base:=base) Z
 have G_read_rules := zfs (P:=P) (w:=w) (base:=base) Z
 refine Z.F_law.ok zc9 (fun vs H Q E h => by obtain ⟨a, ns, rfl, _⟩ := h; rfl) (fun cdv A outer s H vs Q E hr h => ⟨_, (zae (zbq (i:=1) zc9.nd rfl (Or.inl rfl) (zcp zaf))
   (zae (zbq (i:=2) zc9.nd rfl (Or.inl rfl) (zcp zaf))
   (zae (zj4 PassesOwn.never rfl (zh5 (zmb zmu (pv 0) zn4 (zna zau))) (zbt (i:=3) zc9.nd rfl (Or.inl rfl)) (zae (zbq (i:=4) zc9.nd rfl (Or.inl rfl) (zbr G_law_row (hr.mono (by decide)) (by rfl) Z.M_law_row Z.F_law_row.kp Z.B_law_row .nil zcc (zaa (pv 3) zaf)))
   (zae (zeo (ze8 F.plainAttrs_list F.slot_list_append F.type_list_append zde (pv 1) (zaa (pv 4) zaf)))
   (zae (zeo (ze8 F.plainAttrs_list F.slot_list_append F.type_list_append zde (pv 2) (zaa (zc7 (show IxR _ (rIxT K) from zmn) (pv 4) zau (fun _ _ => rfl)) zaf)))
   (zae (zco (za9 zcm (zcg zdy (pv 3) zau) zau (zbj _)) (zag (zeo (ze8 F.plainAttrs_list F.slot_list_append F.type_list_append zde (pv 2) (zaa (zc7 (show IxR _ (rIxL K) from zb5) (zcp (zaa zan (zaa zan (zaa zan (zaa zan (zaa zan zaf)))))) (zcg zdy (zcg zdk (pv 3) zau) zau) (fun _ _ => rfl)) zaf)))) zbk)
   (zag (zco (zd4 (zd9 (zbr G_law_good (hr.mono (by decide)) (by rfl) Z.M_law_good Z.F_law_good.kp Z.B_law_good .nil zcc (zaa (zbr G_read_rule (hr.mono (by decide)) (by rfl) Z.M_read_rule Z.F_read_rule.kp Z.B_read_rule .nil zcc (zaa (zc7 (show IxR _ (rIxT K) from zmn) (pv 4) zau (fun _ _ => rfl)) zaf)) (zaa (pv 4) zaf))))) (zag (za6 zhw)) zbk)))))))
   (zae (zj4 PassesOwn.never rfl (zkl (by rfl) Z.z_range (zaa zau zaf)) (zbt (i:=5) zc9.nd rfl (Or.inl rfl)) (zae (zbq (i:=6) zc9.nd rfl (Or.inl rfl) (zbr G_read_rules (hr.mono (by decide)) (by rfl) Z.M_read_rules Z.F_read_rules.kp Z.B_read_rules .nil zcc (zaa (ze8 F.plainAttrs_str F.slot_str_join F.type_str_join zh9 zan (zaa (pv 2) zaf)) zaf)))
   (zae (zco (PW.pt (zib (zd4 (zd9 (za3 (show zb2 _ _ (fun xs H Q => ∃ p ys, xs = [.ref p, .ty "list"] /\ SqL K H p ys /\ Q (.bl true) H) from zda) (by rfl) Z.z_isinstance boot_isinstance (zaa (pv 6) (zaa (zex (v:=.ty "list") (by rfl) Z.z_list boot_list rfl) zaf))))) (zgx (za9 zos (za3 zcv (by rfl) Z.z_len boot_len (zaa (pv 6) zaf)) (za3 zcv (by rfl) Z.z_len boot_len (zaa (pv 1) zaf)) (zbj _))))) (zag (za6 zhw)) zbk)
   (zae (zj4 PassesOwn.never rfl (zid (by rfl) Z.z_zip (zaa (pv 6) (zaa (pv 1) zaf))) (zix rfl (zby (zbt (i:=7) zc9.nd rfl (Or.inl rfl)) (zby (zbt (i:=4) zc9.nd rfl (Or.inl rfl)) zft))) (zag (zco (zd4 (zd9 (zbr G_law_good (hr.mono (by decide)) (by rfl) Z.M_law_good Z.F_law_good.kp Z.B_law_good .nil zcc (zaa (pv 7) (zaa (pv 4) zaf))))) (zag (za6 zhw)) zbk)))
   (zag (zeo (zof F.plainAttrs_list F.slot_list_clear F.type_list_clear zl2 (pv 6))))))))
   (zag (za6 zhw)))))), ?_⟩)
 obtain ⟨a, ns, rfl, sq, hl, hQ⟩ := h
 have r : Reps K H [.lst (ns.map .int)] [.ref a] := Reps.cons (Rep.lst sq (zhi ns)) Reps.nil
 have rt : RtD K H H Q (.bl true) := fun v F H' e r => by rw [r.of_bl]; exact hQ H'
 refine (?_ : Go K H H H _ (slots 8 [.lst (ns.map .int)]) _) H H _ (zb4 (Same.refl H) r (by simp))
 refine zay (zdl (ds:=[]) (zb7 zak (zc4 (by decide))) fun pd => ?_)
 ((try dsimp only); refine zbm ?_)
 refine zay (zdl (ds:=[]) (zb7 zak (zc4 (by decide))) fun pr => ?_)
 ((try dsimp only); refine zbm ?_)
 have exs : cutD (ns.map D.int) none (some 40) = (ns.take 40).map D.int := by
  rw [zmx _ (by decide), List.map_take]; rfl
 have hxl : (ns.take 40).length <= 40 := by rw [List.length_take]; omega
 generalize ns.take 40 = xs at exs hxl
 have mono : ∀ {m : Nat}, m <= 1000 -> m < sizeLine := fun h => by rw [sizeLine_eq]; omega
 refine zay (zpd D.int xs (fun k ss => ∃ (ls : List Ln) (v3 v4 : Sl), ss = [.d (.lst (ns.map .int)), .o pd ((rulesOf ls).map dueD), .o pr (ls.map lnD), v3, v4, .un, .un, .un] /\ (rulesOf ls).length <= k /\ ls.length <= 2 * k /\ ∀ p ∈ ls, LnOk p) (by rw [<- exs]; exact (znf (zad rfl).l zoh (zlp za0.b)).ev) ⟨[], .un, .un, rfl, Nat.le_refl _, Nat.le_refl _, fun p hp => by cases hp⟩ ?_ ?_)
 ·rintro L1 k c ss hL hk ⟨ls, v3, v4, rfl, hrl, hll, hok⟩
  refine ⟨_, zbv, fun N hN => ?_⟩
  have hk40 : k < 40 := by have := (List.getElem?_eq_some_iff.mp hk).1; omega
  refine zay (zlj (pre:=zor) (R:=zpl) (zab (zad rfl) zak) ⟨c, rfl⟩ ?_)
  rintro d ⟨q, hq, rfl⟩
  refine ⟨_, zbv, ?_⟩
  ((try dsimp only); refine zbm ?_)
  have ix0 : ∀ {L0 : Hp} {ss : List Sl}, ss[4]? = some (.d (dueD q)) -> Ev K H H L0 ss (tOp (rIxT K) (tVar 4) (tC (.int 0))) (.str (rowL q)) := fun e => zpg (zad e) za0.b rfl
  refine zay (zez (d:=dueD q) rfl (zad rfl) (mono (by rw [List.length_map]; omega)) ?_)
  ((try dsimp only); refine zbm ?_)
  refine zay (zez (d:=lnD (rowL q, some q)) rfl (ix0 rfl) (mono (by rw [List.length_map]; omega)) ?_)
  ((try dsimp only); refine zbm ?_)
  have hln := zn0 hq
  have er : (rulesOf ls).map dueD ++ [dueD q] = (rulesOf (ls ++ [(rowL q, some q)])).map dueD := by rw [zcn, List.map_append]; rfl
  refine zf1 (fun ss => ∃ ms : List Ln, ss = [.d (.lst (ns.map .int)), .o pd ((rulesOf ms).map dueD), .o pr (ms.map lnD), .d (.int c), .d (dueD q), .un, .un, .un] /\ (rulesOf ms).length <= k + 1 /\ ms.length <= 2 * (k + 1) /\ ∀ p ∈ ms, LnOk p) (fun N2 hN2 => zcu (za7 (zil (zd8 (zad rfl).b za0.b (by decide)).b za0.b)) (fun hb => ?_) (fun hb => ?_)) ?_
  ·obtain ⟨l, h1, h2⟩ := zlc (c / 5)
   refine zez (d:=lnD (l, none)) rfl (zhn (ds:=zfc.map D.str) (EvO.l (zb7 (zab (zaq (by decide +kernel) (by decide +kernel)) (zab (zaq (by decide +kernel) (by decide +kernel)) (zab (zaq (by decide +kernel) (by decide +kernel)) (zab (zaq (by decide +kernel) (by decide +kernel)) (zab (zaq (by decide +kernel) (by decide +kernel)) zak))))) (zc4 (by decide)))) (zd8 (zdn (zad rfl).b za0.b ⟨by decide, by decide⟩).b za0.b (by decide)).b h2) (mono (by simp; omega)) (hN2 _ ⟨ls ++ [(rowL q, some q)] ++ [(l, none)], ?_, ?_, by simp; omega, fun p hp => ?_⟩)
   ·rw [zcn _ [(l, none)], show rulesOf [((l, none) : Ln)] = [] from rfl, List.append_nil, <- er, List.map_append, List.map_append]; rfl
   ·rw [zcn, zcn]; simp [rulesOf] at hrl ⊢; omega
   ·rcases List.mem_append.mp hp with h | h
    ·rcases List.mem_append.mp h with h | h
     ·exact hok p h
     ·rw [List.mem_singleton.mp h]; exact hln
    ·rw [List.mem_singleton.mp h]; exact zij l h1
  ·refine zbl (hN2 _ ⟨ls ++ [(rowL q, some q)], ?_, ?_, by simp; omega, fun p hp => ?_⟩)
   ·rw [<- er, List.map_append]; rfl
   ·rw [zcn]; simp [rulesOf] at hrl ⊢; omega
   ·rcases List.mem_append.mp hp with h | h
    ·exact hok p h
    ·rw [List.mem_singleton.mp h]; exact hln
  rintro ss ⟨ms, rfl, h1, h2, h3⟩
  exact zcu (b:=false) (zct (zg0 (zci (pre:=zns ad0.c_Same ad0.c_Like ad0.c_Near ad0.c_Other ad0.c_Former) (res:=fun _ => .bl true) q (zab (zci (pre:=zo9 ad0.c_Same ad0.c_Like ad0.c_Near ad0.c_Other ad0.c_Former) (res:=insR ad0.c_Same ad0.c_Like ad0.c_Near ad0.c_Other ad0.c_Former) q (zab (ix0 rfl) zak) ⟨rfl, hq⟩) (zab (zad rfl) zak)) ⟨rfl, hq⟩))) (fun hb => by cases hb) (fun _ => zbl (hN _ ⟨ms, _, _, rfl, h1, h2, h3⟩))
 rintro ss ⟨ls, v3, v4, rfl, hrl, hll, hok⟩
 refine zcf (i:=1) rfl (zcf (i:=2) rfl ?_)
 ((try dsimp only); refine zbm ?_)
 obtain ⟨ms, e1, e2, e3, e4, e5⟩ : ∃ ms : List Ln, txtOf ms = txtOf ls /\ ms ≠ [] /\ ms.length <= 400 /\ (∀ p ∈ ms, LnOk p) /\ rulesOf ms = rulesOf ls := by
  by_cases h : ls = []
  ·subst h
   exact ⟨[([], none)], rfl, by simp, by simp, fun p hp => by rw [List.mem_singleton.mp hp]; exact zij [] (by decide), rfl⟩
  ·exact ⟨ls, rfl, h, by omega, hok, rfl⟩
 have htl := zkx e4 e3
 rw [e1] at htl
 have hsum := zmq (ls:=ls.map (·.1)) (n:=100) (by intro l hm; obtain ⟨p, hp, rfl⟩ := List.mem_map.mp hm; exact (hok p hp).2.1)
 rw [List.length_map] at hsum
 have et : glue [10] (ls.map (·.1)) = txtOf ms := e1.symm
 have el : ls.map lnD = (ls.map (·.1)).map D.str := by rw [List.map_map]; rfl
 have hrl40 : (rulesOf ls).length <= 40 := by omega
 generalize rulesOf ls = rs at e5 hrl40
 refine zay (zlu (n:=2) (fun k ss => ∃ (v4 v5 v6 v7 : Sl), ss = [.d (.lst (ns.map .int)), .d (.lst (rs.map dueD)), .d (.lst (ls.map lnD)), v3, v4, v5, v6, v7]) (zlx za0.b zn1) ⟨by decide, by decide⟩ ⟨_, _, _, _, rfl⟩ ?_ ?_ (fun _ _ _ h => h))
 ·rintro k ss hk ⟨v4, v5, v6, v7, rfl⟩ N hN
  refine zay (zdl (ds:=rs.map (insR ad0.c_Same ad0.c_Like ad0.c_Near ad0.c_Other ad0.c_Former)) (by
   rw [<- e5]
   exact zfl ms (zab (by rw [<- et]; exact zh6 (zaq (l:=[10]) (by decide +kernel) (by decide)).b (by rw [<- el]; exact (zad rfl).l) (by rw [List.length_map (f:=fun p : Ln => p.1)]; simp only [List.length_cons, List.length_nil]; omega)) zak) ⟨rfl, e2, e3, e4⟩) fun pf => ?_)
  ((try dsimp only); refine zbm ?_)
  refine zay (zcu (b:=false) ?_ (fun hb => by cases hb) (fun _ => zbl ?_))
  ·have h := ze5 (K:=K) (G:=H) (H₀:=H) (L:=H) (ss:=[.d (.lst (ns.map .int)), .d (.lst (rs.map dueD)), .d (.lst (ls.map lnD)), v3, v4, .d (.int (k : Int)), .o pf (rs.map (insR ad0.c_Same ad0.c_Like ad0.c_Near ad0.c_Other ad0.c_Former)), v7]) (zct (zg0 (zo8 (zj3 (i:=6) rfl)))) fun _ => za7 (zmh (zh7 (zj3 (i:=6) rfl)).b (zh7 (zad (i:=1) rfl).l).b)
   rw [List.length_map, List.length_map, decide_eq_true rfl] at h
   exact h
  ((try dsimp only); refine zbm ?_)
  refine zay (zng (p:=pf) (insR ad0.c_Same ad0.c_Like ad0.c_Near ad0.c_Other ad0.c_Former) dueD rs rs (fun j ss => ∃ (v4 v7 : Sl), ss = [.d (.lst (ns.map .int)), .d (.lst (rs.map dueD)), .d (.lst (ls.map lnD)), v3, v4, .d (.int (k : Int)), .o pf (rs.map (insR ad0.c_Same ad0.c_Like ad0.c_Near ad0.c_Other ad0.c_Former)), v7]) (zad rfl) rfl ⟨_, _, rfl⟩ (by rintro j ss ⟨v4, v7, rfl⟩; rfl) ?_ ?_)
  ·rintro L2 j x y ss hL2 hx hy ⟨v4, v7, rfl⟩
   rw [hx] at hy
   cases hy
   refine ⟨_, zim rfl (zb0 zbv (zb0 zbv zf0)), fun N2 hN2 => ?_⟩
   have hm : RuOk x := by
    have := List.mem_of_getElem? hx
    rw [<- e5] at this
    obtain ⟨p, hp, e⟩ := List.mem_filterMap.mp this
    obtain ⟨_, _, h⟩ := e4 p hp
    rw [e] at h
    exact h.2
   exact zcu (b:=false) (zct (zg0 (zci (pre:=zns ad0.c_Same ad0.c_Like ad0.c_Near ad0.c_Other ad0.c_Former) (res:=fun _ => .bl true) x (zab (zad rfl) (zab (zad rfl) zak)) ⟨rfl, hm⟩))) (fun hb => by cases hb) (fun _ => zbl (hN2 _ ⟨_, _, rfl⟩))
  rintro ss ⟨v4, v7, rfl⟩
  ((try dsimp only); refine zbm ?_)
  refine zl5 (p:=pf) rfl (zcf (i:=6) rfl (hN _ ⟨_, _, _, _, rfl⟩))
 rintro ss ⟨v4, v5, v6, v7, rfl⟩
 ((try dsimp only); refine zbm ?_)
 exact zbu zp4 rt
end
theorem zb6 {α : Type} {P : List α -> Prop} {us : List α} (hl : us.length = 1) (h : ∀ a0, P [a0]) : P us := match us, hl with
 | [a0], _ => h a0
theorem zj9 {α : Type} {P : List α -> Prop} {us : List α} (hl : us.length = 2) (h : ∀ a0 a1, P [a0, a1]) : P us := match us, hl with
 | [a0, a1], _ => h a0 a1
theorem zmo {α : Type} {P : List α -> Prop} {us : List α} (hl : us.length = 3) (h : ∀ a0 a1 a2, P [a0, a1, a2]) : P us := match us, hl with
 | [a0, a1, a2], _ => h a0 a1 a2
theorem zet (kV doc pm : Value) (an : Option Addr) (cdv ct : Value) (us : List Value) (hl : us.length = (["row"] : List Str).length) : bindArgs (PySem.W.fnOf "is_passed_by" "is_passed_by" (zaj zaw) (zah zaw) (zac zaw) .none kV doc pm an cdv ct) ⟨us, []⟩ = pure ((["row"] : List Str).zip us) :=
 zb6 (P:=fun us => bindArgs _ ⟨us, []⟩ = pure (List.zip _ us)) hl fun _ => rfl
theorem zgv (kV doc pm : Value) (an : Option Addr) (cdv ct : Value) (us : List Value) (hl : us.length = (["text"] : List Str).length) : bindArgs (PySem.W.fnOf "told_rows" "told_rows" (zaj za5) (zah za5) (zac za5) .none kV doc pm an cdv ct) ⟨us, []⟩ = pure ((["text"] : List Str).zip us) :=
 zb6 (P:=fun us => bindArgs _ ⟨us, []⟩ = pure (List.zip _ us)) hl fun _ => rfl
theorem zgj (kV doc pm : Value) (an : Option Addr) (cdv ct : Value) (us : List Value) (hl : us.length = (["self", "weight", "field"] : List Str).length) : bindArgs (PySem.W.fnOf "__init__" "Rule.__init__" (zaj zbe) (zah zbe) (zac zbe) .none kV doc pm an cdv ct) ⟨us, []⟩ = pure ((["self", "weight", "field"] : List Str).zip us) :=
 zmo (P:=fun us => bindArgs _ ⟨us, []⟩ = pure (List.zip _ us)) hl fun _ _ _ => rfl
theorem zdu (kV doc pm : Value) (an : Option Addr) (cdv ct : Value) (us : List Value) (hl : us.length = (["self"] : List Str).length) : bindArgs (PySem.W.fnOf "sort_word" "Same.sort_word" (zaj zas) (zah zas) (zac zas) .none kV doc pm an cdv ct) ⟨us, []⟩ = pure ((["self"] : List Str).zip us) :=
 zb6 (P:=fun us => bindArgs _ ⟨us, []⟩ = pure (List.zip _ us)) hl fun _ => rfl
theorem zdo (kV doc pm : Value) (an : Option Addr) (cdv ct : Value) (us : List Value) (hl : us.length = (["self"] : List Str).length) : bindArgs (PySem.W.fnOf "sort_word" "Like.sort_word" (zaj zat) (zah zat) (zac zat) .none kV doc pm an cdv ct) ⟨us, []⟩ = pure ((["self"] : List Str).zip us) :=
 zb6 (P:=fun us => bindArgs _ ⟨us, []⟩ = pure (List.zip _ us)) hl fun _ => rfl
theorem zdr (kV doc pm : Value) (an : Option Addr) (cdv ct : Value) (us : List Value) (hl : us.length = (["self"] : List Str).length) : bindArgs (PySem.W.fnOf "sort_word" "Near.sort_word" (zaj zar) (zah zar) (zac zar) .none kV doc pm an cdv ct) ⟨us, []⟩ = pure ((["self"] : List Str).zip us) :=
 zb6 (P:=fun us => bindArgs _ ⟨us, []⟩ = pure (List.zip _ us)) hl fun _ => rfl
theorem zdb (kV doc pm : Value) (an : Option Addr) (cdv ct : Value) (us : List Value) (hl : us.length = (["self"] : List Str).length) : bindArgs (PySem.W.fnOf "sort_word" "Other.sort_word" (zaj zap) (zah zap) (zac zap) .none kV doc pm an cdv ct) ⟨us, []⟩ = pure ((["self"] : List Str).zip us) :=
 zb6 (P:=fun us => bindArgs _ ⟨us, []⟩ = pure (List.zip _ us)) hl fun _ => rfl
theorem zfd (kV doc pm : Value) (an : Option Addr) (cdv ct : Value) (us : List Value) (hl : us.length = (["self", "weight"] : List Str).length) : bindArgs (PySem.W.fnOf "__init__" "Former.__init__" (zaj zaz) (zah zaz) (zac zaz) .none kV doc pm an cdv ct) ⟨us, []⟩ = pure ((["self", "weight"] : List Str).zip us) :=
 zj9 (P:=fun us => bindArgs _ ⟨us, []⟩ = pure (List.zip _ us)) hl fun _ _ => rfl
theorem zc6 (kV doc pm : Value) (an : Option Addr) (cdv ct : Value) (us : List Value) (hl : us.length = (["self"] : List Str).length) : bindArgs (PySem.W.fnOf "sort_word" "Former.sort_word" (zaj zao) (zah zao) (zac zao) .none kV doc pm an cdv ct) ⟨us, []⟩ = pure ((["self"] : List Str).zip us) :=
 zb6 (P:=fun us => bindArgs _ ⟨us, []⟩ = pure (List.zip _ us)) hl fun _ => rfl
theorem zgh (kV doc pm : Value) (an : Option Addr) (cdv ct : Value) (us : List Value) (hl : us.length = (["weight", "field", "word"] : List Str).length) : bindArgs (PySem.W.fnOf "made_rule" "made_rule" (zaj zbc) (zah zbc) (zac zbc) .none kV doc pm an cdv ct) ⟨us, []⟩ = pure ((["weight", "field", "word"] : List Str).zip us) :=
 zmo (P:=fun us => bindArgs _ ⟨us, []⟩ = pure (List.zip _ us)) hl fun _ _ _ => rfl
theorem zhg (kV doc pm : Value) (an : Option Addr) (cdv ct : Value) (us : List Value) (hl : us.length = (["word"] : List Str).length) : bindArgs (PySem.W.fnOf "is_amount" "is_amount" (zaj za4) (zah za4) (zac za4) .none kV doc pm an cdv ct) ⟨us, []⟩ = pure ((["word"] : List Str).zip us) :=
 zb6 (P:=fun us => bindArgs _ ⟨us, []⟩ = pure (List.zip _ us)) hl fun _ => rfl
theorem zgl (kV doc pm : Value) (an : Option Addr) (cdv ct : Value) (us : List Value) (hl : us.length = (["row"] : List Str).length) : bindArgs (PySem.W.fnOf "read_rule" "read_rule" (zaj zbb) (zah zbb) (zac zbb) .none kV doc pm an cdv ct) ⟨us, []⟩ = pure ((["row"] : List Str).zip us) :=
 zb6 (P:=fun us => bindArgs _ ⟨us, []⟩ = pure (List.zip _ us)) hl fun _ => rfl
theorem zed (kV doc pm : Value) (an : Option Addr) (cdv ct : Value) (us : List Value) (hl : us.length = (["number", "row"] : List Str).length) : bindArgs (PySem.W.fnOf "numbered_rule" "numbered_rule" (zaj zav) (zah zav) (zac zav) .none kV doc pm an cdv ct) ⟨us, []⟩ = pure ((["number", "row"] : List Str).zip us) :=
 zj9 (P:=fun us => bindArgs _ ⟨us, []⟩ = pure (List.zip _ us)) hl fun _ _ => rfl
theorem zf3 (kV doc pm : Value) (an : Option Addr) (cdv ct : Value) (us : List Value) (hl : us.length = (["text"] : List Str).length) : bindArgs (PySem.W.fnOf "read_rules" "read_rules" (zaj za1) (zah za1) (zac za1) .none kV doc pm an cdv ct) ⟨us, []⟩ = pure ((["text"] : List Str).zip us) :=
 zb6 (P:=fun us => bindArgs _ ⟨us, []⟩ = pure (List.zip _ us)) hl fun _ => rfl
theorem zgk (kV doc pm : Value) (an : Option Addr) (cdv ct : Value) (us : List Value) (hl : us.length = (["rule"] : List Str).length) : bindArgs (PySem.W.fnOf "show_rule" "show_rule" (zaj zbg) (zah zbg) (zac zbg) .none kV doc pm an cdv ct) ⟨us, []⟩ = pure ((["rule"] : List Str).zip us) :=
 zb6 (P:=fun us => bindArgs _ ⟨us, []⟩ = pure (List.zip _ us)) hl fun _ => rfl
theorem zf8 (kV doc pm : Value) (an : Option Addr) (cdv ct : Value) (us : List Value) (hl : us.length = (["_law_found"] : List Str).length) : bindArgs (PySem.W.fnOf "_law_whole" "_law_whole" (zaj zba) (zah zba) (zac zba) .none kV doc pm an cdv ct) ⟨us, []⟩ = pure ((["_law_found"] : List Str).zip us) :=
 zb6 (P:=fun us => bindArgs _ ⟨us, []⟩ = pure (List.zip _ us)) hl fun _ => rfl
theorem zi3 (kV doc pm : Value) (an : Option Addr) (cdv ct : Value) (us : List Value) (hl : us.length = (["_law_cell"] : List Str).length) : bindArgs (PySem.W.fnOf "_law_row" "_law_row" (zaj zbs) (zah zbs) (zac zbs) .none kV doc pm an cdv ct) ⟨us, []⟩ = pure ((["_law_cell"] : List Str).zip us) :=
 zb6 (P:=fun us => bindArgs _ ⟨us, []⟩ = pure (List.zip _ us)) hl fun _ => rfl
theorem zgc (kV doc pm : Value) (an : Option Addr) (cdv ct : Value) (us : List Value) (hl : us.length = (["_law_rule"] : List Str).length) : bindArgs (PySem.W.fnOf "_law_sorts" "_law_sorts" (zaj zbf) (zah zbf) (zac zbf) .none kV doc pm an cdv ct) ⟨us, []⟩ = pure ((["_law_rule"] : List Str).zip us) :=
 zb6 (P:=fun us => bindArgs _ ⟨us, []⟩ = pure (List.zip _ us)) hl fun _ => rfl
theorem zh1 (kV doc pm : Value) (an : Option Addr) (cdv ct : Value) (us : List Value) (hl : us.length = (["_law_rule", "_law_due"] : List Str).length) : bindArgs (PySem.W.fnOf "_law_good" "_law_good" (zaj zbi) (zah zbi) (zac zbi) .none kV doc pm an cdv ct) ⟨us, []⟩ = pure ((["_law_rule", "_law_due"] : List Str).zip us) :=
 zj9 (P:=fun us => bindArgs _ ⟨us, []⟩ = pure (List.zip _ us)) hl fun _ _ => rfl
theorem zo2 (kV doc pm : Value) (an : Option Addr) (cdv ct : Value) (us : List Value) (hl : us.length = (["_law_script"] : List Str).length) : bindArgs (PySem.W.fnOf "law" "law" (zaj zfn) (zah zfn) (zac zfn) .none kV doc pm an cdv ct) ⟨us, []⟩ = pure ((["_law_script"] : List Str).zip us) :=
 zb6 (P:=fun us => bindArgs _ ⟨us, []⟩ = pure (List.zip _ us)) hl fun _ => rfl
theorem all_mk {l : PySem.W.OpenLaw} {w : World} {K : PySem.W.Frag} {h : Heap} {mg : Str -> Option Value} {fa g0 g1 g2 g3 g4 g5 g6 g7 g8 g9 g10 g11 g12 g13 g14 g15 g16 g17 g18 g19 : Addr} (X : K.In h) (G : h.Ns mainGlobals mg) (hfa : mg "law" = some (.ref fa))
  {od0 an0 od1 an1 od2 an2 od3 an3 od4 an4 od5 an5 od6 an6 od7 an7 od8 an8 od9 an9 od10 an10 od11 an11 od12 an12 od13 an13 od14 an14 od15 an15 od16 an16 od17 an17 od18 an18 od19 an19 : Option Addr} {sl0 sl1 sl2 sl3 sl4 sl5 sl6 sl7 sl8 sl9 sl10 sl11 sl12 sl13 sl14 sl15 sl16 sl17 sl18 sl19 : Array (Option Value)} {oc0 kV0 dc0 pm0 cd0 ct0 oc1 kV1 dc1 pm1 cd1 ct1 oc2 kV2 dc2 pm2 cd2 ct2 oc3 kV3 dc3 pm3 cd3 ct3 oc4 kV4 dc4 pm4 cd4 ct4 oc5 kV5 dc5 pm5 cd5 ct5 oc6 kV6 dc6 pm6 cd6 ct6 oc7 kV7 dc7 pm7 cd7 ct7 oc8 kV8 dc8 pm8 cd8 ct8 oc9 kV9 dc9 pm9 cd9 ct9 oc10 kV10 dc10 pm10 cd10 ct10 oc11 kV11 dc11 pm11 cd11 ct11 oc12 kV12 dc12 pm12 cd12 ct12 oc13 kV13 dc13 pm13 cd13 ct13 oc14 kV14 dc14 pm14 cd14 ct14 oc15 kV15 dc15 pm15 cd15 ct15 oc16 kV16 dc16 pm16 cd16 ct16 oc17 kV17 dc17 pm17 cd17 ct17 oc18 kV18 dc18 pm18 cd18 ct18 oc19 kV19 dc19 pm19 cd19 ct19 : Value}
  {q_Former : Addr} {q_Like : Addr} {q_Near : Addr} {q_Other : Addr} {q_Rule : Addr} {q_Same : Addr} {q_FIELDS : Addr} {od_FIELDS : Option Addr} {nn_FIELDS : Nat} {sl_FIELDS : Array (Option Value)} {t0_FIELDS t1_FIELDS t2_FIELDS t3_FIELDS t4_FIELDS : Tok} {t_FIGURES : Tok} {t_GREATEST : Tok}
  (a0 : PySem.W.nsIn K mainGlobals "is_passed_by" = some (some (.ref g0))) (l0 : K.lookup g0 = some ⟨oc0, od0, .func (PySem.W.fnOf "is_passed_by" "is_passed_by" (zaj zaw) (zah zaw) (zac zaw) .none kV0 dc0 pm0 an0 cd0 ct0), sl0⟩) (c0 : PySem.W.codeIn K cd0 "is_passed_by" = true) (k0 : PySem.W.keepIn K (.ref g0) = true)
  (a1 : PySem.W.nsIn K mainGlobals "told_rows" = some (some (.ref g1))) (l1 : K.lookup g1 = some ⟨oc1, od1, .func (PySem.W.fnOf "told_rows" "told_rows" (zaj za5) (zah za5) (zac za5) .none kV1 dc1 pm1 an1 cd1 ct1), sl1⟩) (c1 : PySem.W.codeIn K cd1 "told_rows" = true) (k1 : PySem.W.keepIn K (.ref g1) = true)
  (l2 : K.lookup g2 = some ⟨oc2, od2, .func (PySem.W.fnOf "__init__" "Rule.__init__" (zaj zbe) (zah zbe) (zac zbe) .none kV2 dc2 pm2 an2 cd2 ct2), sl2⟩) (c2 : PySem.W.codeIn K cd2 "Rule.__init__" = true) (k2 : PySem.W.keepIn K (.ref g2) = true) (mf2 : PySem.W.isFn K (.ref g2) = true)
  (l3 : K.lookup g3 = some ⟨oc3, od3, .func (PySem.W.fnOf "sort_word" "Same.sort_word" (zaj zas) (zah zas) (zac zas) .none kV3 dc3 pm3 an3 cd3 ct3), sl3⟩) (c3 : PySem.W.codeIn K cd3 "Same.sort_word" = true) (k3 : PySem.W.keepIn K (.ref g3) = true) (mf3 : PySem.W.isFn K (.ref g3) = true)
  (l4 : K.lookup g4 = some ⟨oc4, od4, .func (PySem.W.fnOf "sort_word" "Like.sort_word" (zaj zat) (zah zat) (zac zat) .none kV4 dc4 pm4 an4 cd4 ct4), sl4⟩) (c4 : PySem.W.codeIn K cd4 "Like.sort_word" = true) (k4 : PySem.W.keepIn K (.ref g4) = true) (mf4 : PySem.W.isFn K (.ref g4) = true)
  (l5 : K.lookup g5 = some ⟨oc5, od5, .func (PySem.W.fnOf "sort_word" "Near.sort_word" (zaj zar) (zah zar) (zac zar) .none kV5 dc5 pm5 an5 cd5 ct5), sl5⟩) (c5 : PySem.W.codeIn K cd5 "Near.sort_word" = true) (k5 : PySem.W.keepIn K (.ref g5) = true) (mf5 : PySem.W.isFn K (.ref g5) = true)
  (l6 : K.lookup g6 = some ⟨oc6, od6, .func (PySem.W.fnOf "sort_word" "Other.sort_word" (zaj zap) (zah zap) (zac zap) .none kV6 dc6 pm6 an6 cd6 ct6), sl6⟩) (c6 : PySem.W.codeIn K cd6 "Other.sort_word" = true) (k6 : PySem.W.keepIn K (.ref g6) = true) (mf6 : PySem.W.isFn K (.ref g6) = true)
  (l7 : K.lookup g7 = some ⟨oc7, od7, .func (PySem.W.fnOf "__init__" "Former.__init__" (zaj zaz) (zah zaz) (zac zaz) .none kV7 dc7 pm7 an7 cd7 ct7), sl7⟩) (c7 : PySem.W.codeIn K cd7 "Former.__init__" = true) (k7 : PySem.W.keepIn K (.ref g7) = true) (mf7 : PySem.W.isFn K (.ref g7) = true)
  (l8 : K.lookup g8 = some ⟨oc8, od8, .func (PySem.W.fnOf "sort_word" "Former.sort_word" (zaj zao) (zah zao) (zac zao) .none kV8 dc8 pm8 an8 cd8 ct8), sl8⟩) (c8 : PySem.W.codeIn K cd8 "Former.sort_word" = true) (k8 : PySem.W.keepIn K (.ref g8) = true) (mf8 : PySem.W.isFn K (.ref g8) = true)
  (a9 : PySem.W.nsIn K mainGlobals "made_rule" = some (some (.ref g9))) (l9 : K.lookup g9 = some ⟨oc9, od9, .func (PySem.W.fnOf "made_rule" "made_rule" (zaj zbc) (zah zbc) (zac zbc) .none kV9 dc9 pm9 an9 cd9 ct9), sl9⟩) (c9 : PySem.W.codeIn K cd9 "made_rule" = true) (k9 : PySem.W.keepIn K (.ref g9) = true)
  (a10 : PySem.W.nsIn K mainGlobals "is_amount" = some (some (.ref g10))) (l10 : K.lookup g10 = some ⟨oc10, od10, .func (PySem.W.fnOf "is_amount" "is_amount" (zaj za4) (zah za4) (zac za4) .none kV10 dc10 pm10 an10 cd10 ct10), sl10⟩) (c10 : PySem.W.codeIn K cd10 "is_amount" = true) (k10 : PySem.W.keepIn K (.ref g10) = true)
  (a11 : PySem.W.nsIn K mainGlobals "read_rule" = some (some (.ref g11))) (l11 : K.lookup g11 = some ⟨oc11, od11, .func (PySem.W.fnOf "read_rule" "read_rule" (zaj zbb) (zah zbb) (zac zbb) .none kV11 dc11 pm11 an11 cd11 ct11), sl11⟩) (c11 : PySem.W.codeIn K cd11 "read_rule" = true) (k11 : PySem.W.keepIn K (.ref g11) = true)
  (a12 : PySem.W.nsIn K mainGlobals "numbered_rule" = some (some (.ref g12))) (l12 : K.lookup g12 = some ⟨oc12, od12, .func (PySem.W.fnOf "numbered_rule" "numbered_rule" (zaj zav) (zah zav) (zac zav) .none kV12 dc12 pm12 an12 cd12 ct12), sl12⟩) (c12 : PySem.W.codeIn K cd12 "numbered_rule" = true) (k12 : PySem.W.keepIn K (.ref g12) = true)
  (a13 : PySem.W.nsIn K mainGlobals "read_rules" = some (some (.ref g13))) (l13 : K.lookup g13 = some ⟨oc13, od13, .func (PySem.W.fnOf "read_rules" "read_rules" (zaj za1) (zah za1) (zac za1) .none kV13 dc13 pm13 an13 cd13 ct13), sl13⟩) (c13 : PySem.W.codeIn K cd13 "read_rules" = true) (k13 : PySem.W.keepIn K (.ref g13) = true)
  (a14 : PySem.W.nsIn K mainGlobals "show_rule" = some (some (.ref g14))) (l14 : K.lookup g14 = some ⟨oc14, od14, .func (PySem.W.fnOf "show_rule" "show_rule" (zaj zbg) (zah zbg) (zac zbg) .none kV14 dc14 pm14 an14 cd14 ct14), sl14⟩) (c14 : PySem.W.codeIn K cd14 "show_rule" = true) (k14 : PySem.W.keepIn K (.ref g14) = true)
  (a15 : PySem.W.nsIn K mainGlobals "_law_whole" = some (some (.ref g15))) (l15 : K.lookup g15 = some ⟨oc15, od15, .func (PySem.W.fnOf "_law_whole" "_law_whole" (zaj zba) (zah zba) (zac zba) .none kV15 dc15 pm15 an15 cd15 ct15), sl15⟩) (c15 : PySem.W.codeIn K cd15 "_law_whole" = true) (k15 : PySem.W.keepIn K (.ref g15) = true)
  (a16 : PySem.W.nsIn K mainGlobals "_law_row" = some (some (.ref g16))) (l16 : K.lookup g16 = some ⟨oc16, od16, .func (PySem.W.fnOf "_law_row" "_law_row" (zaj zbs) (zah zbs) (zac zbs) .none kV16 dc16 pm16 an16 cd16 ct16), sl16⟩) (c16 : PySem.W.codeIn K cd16 "_law_row" = true) (k16 : PySem.W.keepIn K (.ref g16) = true)
  (a17 : PySem.W.nsIn K mainGlobals "_law_sorts" = some (some (.ref g17))) (l17 : K.lookup g17 = some ⟨oc17, od17, .func (PySem.W.fnOf "_law_sorts" "_law_sorts" (zaj zbf) (zah zbf) (zac zbf) .none kV17 dc17 pm17 an17 cd17 ct17), sl17⟩) (c17 : PySem.W.codeIn K cd17 "_law_sorts" = true) (k17 : PySem.W.keepIn K (.ref g17) = true)
  (a18 : PySem.W.nsIn K mainGlobals "_law_good" = some (some (.ref g18))) (l18 : K.lookup g18 = some ⟨oc18, od18, .func (PySem.W.fnOf "_law_good" "_law_good" (zaj zbi) (zah zbi) (zac zbi) .none kV18 dc18 pm18 an18 cd18 ct18), sl18⟩) (c18 : PySem.W.codeIn K cd18 "_law_good" = true) (k18 : PySem.W.keepIn K (.ref g18) = true)
  (a19 : PySem.W.nsIn K mainGlobals "law" = some (some (.ref g19))) (l19 : K.lookup g19 = some ⟨oc19, od19, .func (PySem.W.fnOf "law" "law" (zaj zfn) (zah zfn) (zac zfn) .none kV19 dc19 pm19 an19 cd19 ct19), sl19⟩) (c19 : PySem.W.codeIn K cd19 "law" = true) (k19 : PySem.W.keepIn K (.ref g19) = true)
  (a_Former : PySem.W.nsIn K mainGlobals "Former" = some (some (.ref q_Former)))
  (a_Like : PySem.W.nsIn K mainGlobals "Like" = some (some (.ref q_Like)))
  (a_Near : PySem.W.nsIn K mainGlobals "Near" = some (some (.ref q_Near)))
  (a_Other : PySem.W.nsIn K mainGlobals "Other" = some (some (.ref q_Other)))
  (a_Rule : PySem.W.nsIn K mainGlobals "Rule" = some (some (.ref q_Rule)))
  (a_Same : PySem.W.nsIn K mainGlobals "Same" = some (some (.ref q_Same)))
  (cl0_Same : PySem.W.plainGet K q_Same Str.empty = true)
  (cl1_Same : PySem.W.hasDictIn K q_Same = true)
  (cl2_Same : PySem.W.plainOver K q_Same = true)
  (cl3_Same : PySem.W.findIn K (.ref q_Same) "__setattr__" = some (some (.builtin "object.__setattr__")))
  (mk_Same : PySem.W.makesIn K q_Same = true) (me_Same_init : PySem.W.findIn K (.ref q_Same) "__init__" = some (some (.ref g2))) (mc_Same : PySem.W.keepIn K (.ref q_Same) = true)
  (cl0_Like : PySem.W.plainGet K q_Like Str.empty = true)
  (cl1_Like : PySem.W.hasDictIn K q_Like = true)
  (cl2_Like : PySem.W.plainOver K q_Like = true)
  (cl3_Like : PySem.W.findIn K (.ref q_Like) "__setattr__" = some (some (.builtin "object.__setattr__")))
  (mk_Like : PySem.W.makesIn K q_Like = true) (me_Like_init : PySem.W.findIn K (.ref q_Like) "__init__" = some (some (.ref g2))) (mc_Like : PySem.W.keepIn K (.ref q_Like) = true)
  (cl0_Near : PySem.W.plainGet K q_Near Str.empty = true)
  (cl1_Near : PySem.W.hasDictIn K q_Near = true)
  (cl2_Near : PySem.W.plainOver K q_Near = true)
  (cl3_Near : PySem.W.findIn K (.ref q_Near) "__setattr__" = some (some (.builtin "object.__setattr__")))
  (mk_Near : PySem.W.makesIn K q_Near = true) (me_Near_init : PySem.W.findIn K (.ref q_Near) "__init__" = some (some (.ref g2))) (mc_Near : PySem.W.keepIn K (.ref q_Near) = true)
  (cl0_Other : PySem.W.plainGet K q_Other Str.empty = true)
  (cl1_Other : PySem.W.hasDictIn K q_Other = true)
  (cl2_Other : PySem.W.plainOver K q_Other = true)
  (cl3_Other : PySem.W.findIn K (.ref q_Other) "__setattr__" = some (some (.builtin "object.__setattr__")))
  (mk_Other : PySem.W.makesIn K q_Other = true) (me_Other_init : PySem.W.findIn K (.ref q_Other) "__init__" = some (some (.ref g2))) (mc_Other : PySem.W.keepIn K (.ref q_Other) = true)
  (cl0_Former : PySem.W.plainGet K q_Former Str.empty = true)
  (cl1_Former : PySem.W.hasDictIn K q_Former = true)
  (cl2_Former : PySem.W.plainOver K q_Former = true)
  (cl3_Former : PySem.W.findIn K (.ref q_Former) "__setattr__" = some (some (.builtin "object.__setattr__")))
  (mk_Former : PySem.W.makesIn K q_Former = true) (me_Former_init : PySem.W.findIn K (.ref q_Former) "__init__" = some (some (.ref g7))) (mc_Former : PySem.W.keepIn K (.ref q_Former) = true)
  (na_Same_weight : PySem.W.findIn K (.ref q_Same) "weight" = some none)
  (na_Like_weight : PySem.W.findIn K (.ref q_Like) "weight" = some none)
  (na_Near_weight : PySem.W.findIn K (.ref q_Near) "weight" = some none)
  (na_Other_weight : PySem.W.findIn K (.ref q_Other) "weight" = some none)
  (na_Former_weight : PySem.W.findIn K (.ref q_Former) "weight" = some none)
  (me_Former_sort_word : PySem.W.findIn K (.ref q_Former) "sort_word" = some (some (.ref g8)))
  (me_Other_sort_word : PySem.W.findIn K (.ref q_Other) "sort_word" = some (some (.ref g6)))
  (me_Near_sort_word : PySem.W.findIn K (.ref q_Near) "sort_word" = some (some (.ref g5)))
  (me_Like_sort_word : PySem.W.findIn K (.ref q_Like) "sort_word" = some (some (.ref g4)))
  (me_Same_sort_word : PySem.W.findIn K (.ref q_Same) "sort_word" = some (some (.ref g3)))
  (na_Same_field : PySem.W.findIn K (.ref q_Same) "field" = some none)
  (na_Like_field : PySem.W.findIn K (.ref q_Like) "field" = some none)
  (na_Near_field : PySem.W.findIn K (.ref q_Near) "field" = some none)
  (na_Other_field : PySem.W.findIn K (.ref q_Other) "field" = some none)
  (na_Former_field : PySem.W.findIn K (.ref q_Former) "field" = some none)
  (it0_Same : PySem.W.findIn K (.ref q_Same) "__class__" = some (some (.builtin "object.__class__")))
  (it1_Same : PySem.W.specialIn K (.builtin "object.__class__") "__get__" = some (some (.builtin "getset_descriptor.__get__")))
  (it2_Same : PySem.W.takesIn K (.builtin "object.__class__") = some true)
  (it3_Same : PySem.W.mroIn K q_Same (.type "object") = some true)
  (i_Same_Other : PySem.W.kitOne K (.ref q_Same) (.ref q_Other) = some false)
  (it0_Like : PySem.W.findIn K (.ref q_Like) "__class__" = some (some (.builtin "object.__class__")))
  (it1_Like : PySem.W.specialIn K (.builtin "object.__class__") "__get__" = some (some (.builtin "getset_descriptor.__get__")))
  (it2_Like : PySem.W.takesIn K (.builtin "object.__class__") = some true)
  (it3_Like : PySem.W.mroIn K q_Like (.type "object") = some true)
  (i_Like_Other : PySem.W.kitOne K (.ref q_Like) (.ref q_Other) = some false)
  (it0_Near : PySem.W.findIn K (.ref q_Near) "__class__" = some (some (.builtin "object.__class__")))
  (it1_Near : PySem.W.specialIn K (.builtin "object.__class__") "__get__" = some (some (.builtin "getset_descriptor.__get__")))
  (it2_Near : PySem.W.takesIn K (.builtin "object.__class__") = some true)
  (it3_Near : PySem.W.mroIn K q_Near (.type "object") = some true)
  (i_Near_Other : PySem.W.kitOne K (.ref q_Near) (.ref q_Other) = some false)
  (it0_Other : PySem.W.findIn K (.ref q_Other) "__class__" = some (some (.builtin "object.__class__")))
  (it1_Other : PySem.W.specialIn K (.builtin "object.__class__") "__get__" = some (some (.builtin "getset_descriptor.__get__")))
  (it2_Other : PySem.W.takesIn K (.builtin "object.__class__") = some true)
  (it3_Other : PySem.W.mroIn K q_Other (.type "object") = some true)
  (i_Other_Other : PySem.W.kitOne K (.ref q_Other) (.ref q_Other) = some true)
  (it0_Former : PySem.W.findIn K (.ref q_Former) "__class__" = some (some (.builtin "object.__class__")))
  (it1_Former : PySem.W.specialIn K (.builtin "object.__class__") "__get__" = some (some (.builtin "getset_descriptor.__get__")))
  (it2_Former : PySem.W.takesIn K (.builtin "object.__class__") = some true)
  (it3_Former : PySem.W.mroIn K q_Former (.type "object") = some true)
  (i_Former_Other : PySem.W.kitOne K (.ref q_Former) (.ref q_Other) = some false)
  (i_Same_Near : PySem.W.kitOne K (.ref q_Same) (.ref q_Near) = some false)
  (i_Like_Near : PySem.W.kitOne K (.ref q_Like) (.ref q_Near) = some false)
  (i_Near_Near : PySem.W.kitOne K (.ref q_Near) (.ref q_Near) = some true)
  (i_Other_Near : PySem.W.kitOne K (.ref q_Other) (.ref q_Near) = some false)
  (i_Former_Near : PySem.W.kitOne K (.ref q_Former) (.ref q_Near) = some false)
  (i_Same_Like : PySem.W.kitOne K (.ref q_Same) (.ref q_Like) = some false)
  (i_Like_Like : PySem.W.kitOne K (.ref q_Like) (.ref q_Like) = some true)
  (i_Near_Like : PySem.W.kitOne K (.ref q_Near) (.ref q_Like) = some false)
  (i_Other_Like : PySem.W.kitOne K (.ref q_Other) (.ref q_Like) = some false)
  (i_Former_Like : PySem.W.kitOne K (.ref q_Former) (.ref q_Like) = some false)
  (i_Same_Same : PySem.W.kitOne K (.ref q_Same) (.ref q_Same) = some true)
  (i_Like_Same : PySem.W.kitOne K (.ref q_Like) (.ref q_Same) = some false)
  (i_Near_Same : PySem.W.kitOne K (.ref q_Near) (.ref q_Same) = some false)
  (i_Other_Same : PySem.W.kitOne K (.ref q_Other) (.ref q_Same) = some false)
  (i_Former_Same : PySem.W.kitOne K (.ref q_Former) (.ref q_Same) = some false)
  (i_Same_Former : PySem.W.kitOne K (.ref q_Same) (.ref q_Former) = some false)
  (i_Like_Former : PySem.W.kitOne K (.ref q_Like) (.ref q_Former) = some false)
  (i_Near_Former : PySem.W.kitOne K (.ref q_Near) (.ref q_Former) = some false)
  (i_Other_Former : PySem.W.kitOne K (.ref q_Other) (.ref q_Former) = some false)
  (i_Former_Former : PySem.W.kitOne K (.ref q_Former) (.ref q_Former) = some true)
  (i_Same_Rule : PySem.W.kitOne K (.ref q_Same) (.ref q_Rule) = some true)
  (i_Like_Rule : PySem.W.kitOne K (.ref q_Like) (.ref q_Rule) = some true)
  (i_Near_Rule : PySem.W.kitOne K (.ref q_Near) (.ref q_Rule) = some true)
  (i_Other_Rule : PySem.W.kitOne K (.ref q_Other) (.ref q_Rule) = some true)
  (i_Former_Rule : PySem.W.kitOne K (.ref q_Former) (.ref q_Rule) = some true)
  (me_ca_Rule_init : PySem.W.findIn K (.ref q_Rule) "__init__" = some (some (.ref g2))) (ca0_Rule_init : PySem.W.specialIn K (.ref q_Rule) "__getattribute__" = some (some (.builtin "type.__getattribute__"))) (ca1_Rule_init : PySem.W.readsIn K q_Rule (.type "type") = true) (ca2_Rule_init : PySem.W.findCls K (.ref q_Rule) (.type "type") "__init__" = some (.val (.ref g2)))
  (a_FIELDS : PySem.W.nsIn K mainGlobals "FIELDS" = some (some (.ref q_FIELDS))) (l_FIELDS : K.lookup q_FIELDS = some ⟨.type "tuple", od_FIELDS, .seq #[.str (T [110, 97, 109, 101]) t0_FIELDS, .str (T [102, 111, 114, 109, 101, 114]) t1_FIELDS, .str (T [119, 97, 121]) t2_FIELDS, .str (T [100, 97, 121]) t3_FIELDS, .str (T [109, 97, 114, 107]) t4_FIELDS] nn_FIELDS, sl_FIELDS⟩)
  (a_FIGURES : PySem.W.nsIn K mainGlobals "FIGURES" = some (some (.str (T [48, 49, 50, 51, 52, 53, 54, 55, 56, 57]) t_FIGURES)))
  (a_GREATEST : PySem.W.nsIn K mainGlobals "GREATEST" = some (some (.int 1000000000 t_GREATEST)))
  (y_abs : PySem.W.nsIn K mainGlobals "abs" = some none)
  (y_all : PySem.W.nsIn K mainGlobals "all" = some none)
  (y_bool : PySem.W.nsIn K mainGlobals "bool" = some none)
  (y_enumerate : PySem.W.nsIn K mainGlobals "enumerate" = some none)
  (y_int : PySem.W.nsIn K mainGlobals "int" = some none)
  (y_isinstance : PySem.W.nsIn K mainGlobals "isinstance" = some none)
  (y_len : PySem.W.nsIn K mainGlobals "len" = some none)
  (y_list : PySem.W.nsIn K mainGlobals "list" = some none)
  (y_range : PySem.W.nsIn K mainGlobals "range" = some none)
  (y_str : PySem.W.nsIn K mainGlobals "str" = some none)
  (y_zip : PySem.W.nsIn K mainGlobals "zip" = some none) :
  ∃ fd : FuncData, (∀ (s : Shared) (v : Value), BindsTo s fd ⟨[v], []⟩ [("_law_script", v)]) /\ ∀ base : Heap, K.In base -> base.Ns mainGlobals mg -> FnOk l.prog w K mg base CX0 21 fa fd ["_law_script"] (zly K) := by
 have e := hfa.symm.trans (PySem.W.mg_of X G a19)
 cases e
 have F0 := zbo (st:=zaw) l0 c0 k0
 have b0 := F0.binds (ps:=["row"]) zet
 have F1 := zbo (st:=za5) l1 c1 k1
 have b1 := F1.binds (ps:=["text"]) zgv
 have F2 := zbo (st:=zbe) l2 c2 k2
 have b2 := F2.binds (ps:=["self", "weight", "field"]) zgj
 have F3 := zbo (st:=zas) l3 c3 k3
 have b3 := F3.binds (ps:=["self"]) zdu
 have F4 := zbo (st:=zat) l4 c4 k4
 have b4 := F4.binds (ps:=["self"]) zdo
 have F5 := zbo (st:=zar) l5 c5 k5
 have b5 := F5.binds (ps:=["self"]) zdr
 have F6 := zbo (st:=zap) l6 c6 k6
 have b6 := F6.binds (ps:=["self"]) zdb
 have F7 := zbo (st:=zaz) l7 c7 k7
 have b7 := F7.binds (ps:=["self", "weight"]) zfd
 have F8 := zbo (st:=zao) l8 c8 k8
 have b8 := F8.binds (ps:=["self"]) zc6
 have F9 := zbo (st:=zbc) l9 c9 k9
 have b9 := F9.binds (ps:=["weight", "field", "word"]) zgh
 have F10 := zbo (st:=za4) l10 c10 k10
 have b10 := F10.binds (ps:=["word"]) zhg
 have F11 := zbo (st:=zbb) l11 c11 k11
 have b11 := F11.binds (ps:=["row"]) zgl
 have F12 := zbo (st:=zav) l12 c12 k12
 have b12 := F12.binds (ps:=["number", "row"]) zed
 have F13 := zbo (st:=za1) l13 c13 k13
 have b13 := F13.binds (ps:=["text"]) zf3
 have F14 := zbo (st:=zbg) l14 c14 k14
 have b14 := F14.binds (ps:=["rule"]) zgk
 have F15 := zbo (st:=zba) l15 c15 k15
 have b15 := F15.binds (ps:=["_law_found"]) zf8
 have F16 := zbo (st:=zbs) l16 c16 k16
 have b16 := F16.binds (ps:=["_law_cell"]) zi3
 have F17 := zbo (st:=zbf) l17 c17 k17
 have b17 := F17.binds (ps:=["_law_rule"]) zgc
 have F18 := zbo (st:=zbi) l18 c18 k18
 have b18 := F18.binds (ps:=["_law_rule", "_law_due"]) zh1
 have F19 := zbo (st:=zfn) l19 c19 k19
 have b19 := F19.binds (ps:=["_law_script"]) zo2
 exact ⟨_, fun s v => .of_eq rfl, fun base _ _ => zod (ad0:=⟨q_Former, q_Like, q_Near, q_Other, q_Rule, q_Same, q_FIELDS, g0, g1, g2, g3, g4, g5, g6, g7, g8, g9, g10, g11, g12, g13, g14, g15, g16, g17, g18, _, _, _, _, _, _, _, _, _, _, _, _, _, _, _, _, _, _, _, _, _, _, _⟩) ⟨PySem.W.mg_of X G a_Former, PySem.W.mg_of X G a_Like, PySem.W.mg_of X G a_Near, PySem.W.mg_of X G a_Other, PySem.W.mg_of X G a_Rule, PySem.W.mg_of X G a_Same, ⟨cl0_Same, cl1_Same, cl2_Same, cl3_Same⟩, ⟨mk_Same, me_Same_init, mf2, mc_Same⟩, ⟨cl0_Like, cl1_Like, cl2_Like, cl3_Like⟩, ⟨mk_Like, me_Like_init, mf2, mc_Like⟩, ⟨cl0_Near, cl1_Near, cl2_Near, cl3_Near⟩, ⟨mk_Near, me_Near_init, mf2, mc_Near⟩, ⟨cl0_Other, cl1_Other, cl2_Other, cl3_Other⟩, ⟨mk_Other, me_Other_init, mf2, mc_Other⟩, ⟨cl0_Former, cl1_Former, cl2_Former, cl3_Former⟩, ⟨mk_Former, me_Former_init, mf7, mc_Former⟩, na_Same_weight, na_Like_weight, na_Near_weight, na_Other_weight, na_Former_weight, ⟨me_Former_sort_word, mf8, k8⟩, ⟨me_Other_sort_word, mf6, k6⟩, ⟨me_Near_sort_word, mf5, k5⟩, ⟨me_Like_sort_word, mf4, k4⟩, ⟨me_Same_sort_word, mf3, k3⟩, na_Same_field, na_Like_field, na_Near_field, na_Other_field, na_Former_field, ⟨it0_Same, it1_Same, it2_Same, it3_Same⟩, i_Same_Other, ⟨it0_Like, it1_Like, it2_Like, it3_Like⟩, i_Like_Other, ⟨it0_Near, it1_Near, it2_Near, it3_Near⟩, i_Near_Other, ⟨it0_Other, it1_Other, it2_Other, it3_Other⟩, i_Other_Other, ⟨it0_Former, it1_Former, it2_Former, it3_Former⟩, i_Former_Other, i_Same_Near, i_Like_Near, i_Near_Near, i_Other_Near, i_Former_Near, i_Same_Like, i_Like_Like, i_Near_Like, i_Other_Like, i_Former_Like, i_Same_Same, i_Like_Same, i_Near_Same, i_Other_Same, i_Former_Same, i_Same_Former, i_Like_Former, i_Near_Former, i_Other_Former, i_Former_Former, i_Same_Rule, i_Like_Rule, i_Near_Rule, i_Other_Rule, i_Former_Rule, ⟨ca0_Rule_init, ca1_Rule_init, ca2_Rule_init, k2⟩, PySem.W.mg_of X G a_FIELDS, zmt l_FIELDS rfl rfl rfl (by decide) (by decide) (fun i l u h1 h2 => by rcases i with _ | _ | _ | _ | _ | i <;> simp at h1 h2 <;> (subst h1; subst h2; exact ⟨_, rfl⟩)), PySem.W.mg_of X G a_FIGURES, ⟨_, rfl⟩, PySem.W.mg_of X G a_GREATEST, ⟨_, rfl⟩, F0, b0, PySem.W.mg_of X G a0, F1, b1, PySem.W.mg_of X G a1, F2, b2, F3, b3, F4, b4, F5, b5, F6, b6, F7, b7, F8, b8, F9, b9, PySem.W.mg_of X G a9, F10, b10, PySem.W.mg_of X G a10, F11, b11, PySem.W.mg_of X G a11, F12, b12, PySem.W.mg_of X G a12, F13, b13, PySem.W.mg_of X G a13, F14, b14, PySem.W.mg_of X G a14, F15, b15, PySem.W.mg_of X G a15, F16, b16, PySem.W.mg_of X G a16, F17, b17, PySem.W.mg_of X G a17, F18, b18, PySem.W.mg_of X G a18, F19, b19, PySem.W.mg_of X G a19, PySem.W.mg_none_of X G y_abs, PySem.W.mg_none_of X G y_all, PySem.W.mg_none_of X G y_bool, PySem.W.mg_none_of X G y_enumerate, PySem.W.mg_none_of X G y_int, PySem.W.mg_none_of X G y_isinstance, PySem.W.mg_none_of X G y_len, PySem.W.mg_none_of X G y_list, PySem.W.mg_none_of X G y_range, PySem.W.mg_none_of X G y_str, PySem.W.mg_none_of X G y_zip⟩⟩
theorem walk {l : PySem.W.OpenLaw} {q : Program} {loose : List Str} {XP : (Str -> Option Value) -> Heap -> Prop} {YP : World -> Heap -> Prop} {d : DefRec} {K : Params -> PySem.W.Frag} (hn : l.most = some 63) (hdf : d.params.defaults = [])
  (hY : ∀ (w : World) (h : Heap), YP w h -> (K w.params).In h)
  (F : ∀ (w : World) (mg : Str -> Option Value) (fa : Addr) (h : Heap), (K w.params).In h -> h.Ns mainGlobals mg -> mg d.name = some (.ref fa) ->
   ∃ fd : FuncData, (∀ (s : Shared) (u : Value), BindsTo s fd ⟨[u], []⟩ [("_law_script", u)]) /\ ∀ base : Heap, (K w.params).In base -> base.Ns mainGlobals mg -> FnOk l.prog w (K w.params) mg base CX0 21 fa fd ["_law_script"] (zly (K w.params))) :
  PySem.W.WalkO q loose XP YP l.row.toRowW d [] (fun f vs => PySem.call f vs) :=
 L2.walk_of (n:=63) (k:=21) (x:="_law_script") (CX:=fun _ => CX0) (sp:=fun w => zly (K w.params)) hn (by decide) hdf ⟨rfl, by decide, by decide, rfl⟩ hY F (fun _ _ a ns hl _ hS => ⟨a, ns, rfl, hS, hl, fun _ => rfl⟩) fun _ _ _ _ _ z => z
end My
noncomputable def PySem.W.Fast.tw6238123244763899352 : Unit := ()
open PySem PySem.W PyProof.Rows
set_option maxRecDepth 100000 in
set_option maxHeartbeats 0 in
theorem PySem.Challenge.cw_folk_k21_rules_read_holds : PySem.Challenge.rw_folk_k21_rules_read.Holds := by
 w_on; o_law; k_head; (case hw => w_witness2)
 k_fill
 refine My.walk (l:=PySem.Challenge.rw_folk_k21_rules_read) rfl rfl (fun w h Y => PySem.W.kIn_of Y) ?F
 case F =>
  intro w mg fa h KX G hmg
  refine' My.all_mk KX G hmg ?a0 ?l0 ?c0 ?k0 ?a1 ?l1 ?c1 ?k1 ?l2 ?c2 ?k2 ?mf2 ?l3 ?c3 ?k3 ?mf3 ?l4 ?c4 ?k4 ?mf4 ?l5 ?c5 ?k5 ?mf5 ?l6 ?c6 ?k6 ?mf6 ?l7 ?c7 ?k7 ?mf7 ?l8 ?c8 ?k8 ?mf8 ?a9 ?l9 ?c9 ?k9 ?a10 ?l10 ?c10 ?k10 ?a11 ?l11 ?c11 ?k11 ?a12 ?l12 ?c12 ?k12 ?a13 ?l13 ?c13 ?k13 ?a14 ?l14 ?c14 ?k14 ?a15 ?l15 ?c15 ?k15 ?a16 ?l16 ?c16 ?k16 ?a17 ?l17 ?c17 ?k17 ?a18 ?l18 ?c18 ?k18 ?a19 ?l19 ?c19 ?k19 ?a_Former ?a_Like ?a_Near ?a_Other ?a_Rule ?a_Same ?cl0_Same ?cl1_Same ?cl2_Same ?cl3_Same ?mk_Same ?me_Same_init ?mc_Same ?cl0_Like ?cl1_Like ?cl2_Like ?cl3_Like ?mk_Like ?me_Like_init ?mc_Like ?cl0_Near ?cl1_Near ?cl2_Near ?cl3_Near ?mk_Near ?me_Near_init ?mc_Near ?cl0_Other ?cl1_Other ?cl2_Other ?cl3_Other ?mk_Other ?me_Other_init ?mc_Other ?cl0_Former ?cl1_Former ?cl2_Former ?cl3_Former ?mk_Former ?me_Former_init ?mc_Former ?na_Same_weight ?na_Like_weight ?na_Near_weight ?na_Other_weight ?na_Former_weight ?me_Former_sort_word ?me_Other_sort_word ?me_Near_sort_word ?me_Like_sort_word ?me_Same_sort_word ?na_Same_field ?na_Like_field ?na_Near_field ?na_Other_field ?na_Former_field ?it0_Same ?it1_Same ?it2_Same ?it3_Same ?i_Same_Other ?it0_Like ?it1_Like ?it2_Like ?it3_Like ?i_Like_Other ?it0_Near ?it1_Near ?it2_Near ?it3_Near ?i_Near_Other ?it0_Other ?it1_Other ?it2_Other ?it3_Other ?i_Other_Other ?it0_Former ?it1_Former ?it2_Former ?it3_Former ?i_Former_Other ?i_Same_Near ?i_Like_Near ?i_Near_Near ?i_Other_Near ?i_Former_Near ?i_Same_Like ?i_Like_Like ?i_Near_Like ?i_Other_Like ?i_Former_Like ?i_Same_Same ?i_Like_Same ?i_Near_Same ?i_Other_Same ?i_Former_Same ?i_Same_Former ?i_Like_Former ?i_Near_Former ?i_Other_Former ?i_Former_Former ?i_Same_Rule ?i_Like_Rule ?i_Near_Rule ?i_Other_Rule ?i_Former_Rule ?me_ca_Rule_init ?ca0_Rule_init ?ca1_Rule_init ?ca2_Rule_init ?a_FIELDS ?l_FIELDS ?a_FIGURES ?a_GREATEST ?y_abs ?y_all ?y_bool ?y_enumerate ?y_int ?y_isinstance ?y_len ?y_list ?y_range ?y_str ?y_zip
  (case a_Former => k_is)
  (case a_Like => k_is)
  (case a_Near => k_is)
  (case a_Other => k_is)
  (case a_Rule => k_is)
  (case a_Same => k_is)
  (case me_Same_init => k_is)
  (case me_Like_init => k_is)
  (case me_Near_init => k_is)
  (case me_Other_init => k_is)
  (case me_Former_init => k_is)
  (case me_Former_sort_word => k_is)
  (case me_Other_sort_word => k_is)
  (case me_Near_sort_word => k_is)
  (case me_Like_sort_word => k_is)
  (case me_Same_sort_word => k_is)
  (case me_ca_Rule_init => k_is)
  (case a_FIELDS => k_is)
  (case a_FIGURES => k_is)
  (case a_GREATEST => k_is)
  (case a0 => k_is)
  (case l0 => k_is)
  (case c0 => k_is)
  (case k0 => k_is)
  (case a1 => k_is)
  (case l1 => k_is)
  (case c1 => k_is)
  (case k1 => k_is)
  (case l2 => k_is)
  (case c2 => k_is)
  (case k2 => k_is)
  (case mf2 => k_is)
  (case l3 => k_is)
  (case c3 => k_is)
  (case k3 => k_is)
  (case mf3 => k_is)
  (case l4 => k_is)
  (case c4 => k_is)
  (case k4 => k_is)
  (case mf4 => k_is)
  (case l5 => k_is)
  (case c5 => k_is)
  (case k5 => k_is)
  (case mf5 => k_is)
  (case l6 => k_is)
  (case c6 => k_is)
  (case k6 => k_is)
  (case mf6 => k_is)
  (case l7 => k_is)
  (case c7 => k_is)
  (case k7 => k_is)
  (case mf7 => k_is)
  (case l8 => k_is)
  (case c8 => k_is)
  (case k8 => k_is)
  (case mf8 => k_is)
  (case a9 => k_is)
  (case l9 => k_is)
  (case c9 => k_is)
  (case k9 => k_is)
  (case a10 => k_is)
  (case l10 => k_is)
  (case c10 => k_is)
  (case k10 => k_is)
  (case a11 => k_is)
  (case l11 => k_is)
  (case c11 => k_is)
  (case k11 => k_is)
  (case a12 => k_is)
  (case l12 => k_is)
  (case c12 => k_is)
  (case k12 => k_is)
  (case a13 => k_is)
  (case l13 => k_is)
  (case c13 => k_is)
  (case k13 => k_is)
  (case a14 => k_is)
  (case l14 => k_is)
  (case c14 => k_is)
  (case k14 => k_is)
  (case a15 => k_is)
  (case l15 => k_is)
  (case c15 => k_is)
  (case k15 => k_is)
  (case a16 => k_is)
  (case l16 => k_is)
  (case c16 => k_is)
  (case k16 => k_is)
  (case a17 => k_is)
  (case l17 => k_is)
  (case c17 => k_is)
  (case k17 => k_is)
  (case a18 => k_is)
  (case l18 => k_is)
  (case c18 => k_is)
  (case k18 => k_is)
  (case a19 => k_is)
  (case l19 => k_is)
  (case c19 => k_is)
  (case k19 => k_is)
  (case cl0_Same => k_is)
  (case cl1_Same => k_is)
  (case cl2_Same => k_is)
  (case cl3_Same => k_is)
  (case mk_Same => k_is)
  (case mc_Same => k_is)
  (case cl0_Like => k_is)
  (case cl1_Like => k_is)
  (case cl2_Like => k_is)
  (case cl3_Like => k_is)
  (case mk_Like => k_is)
  (case mc_Like => k_is)
  (case cl0_Near => k_is)
  (case cl1_Near => k_is)
  (case cl2_Near => k_is)
  (case cl3_Near => k_is)
  (case mk_Near => k_is)
  (case mc_Near => k_is)
  (case cl0_Other => k_is)
  (case cl1_Other => k_is)
  (case cl2_Other => k_is)
  (case cl3_Other => k_is)
  (case mk_Other => k_is)
  (case mc_Other => k_is)
  (case cl0_Former => k_is)
  (case cl1_Former => k_is)
  (case cl2_Former => k_is)
  (case cl3_Former => k_is)
  (case mk_Former => k_is)
  (case mc_Former => k_is)
  (case na_Same_weight => k_is)
  (case na_Like_weight => k_is)
  (case na_Near_weight => k_is)
  (case na_Other_weight => k_is)
  (case na_Former_weight => k_is)
  (case na_Same_field => k_is)
  (case na_Like_field => k_is)
  (case na_Near_field => k_is)
  (case na_Other_field => k_is)
  (case na_Former_field => k_is)
  (case it0_Same => k_is)
  (case it1_Same => k_is)
  (case it2_Same => k_is)
  (case it3_Same => k_is)
  (case i_Same_Other => kit_is)
  (case it0_Like => k_is)
  (case it1_Like => k_is)
  (case it2_Like => k_is)
  (case it3_Like => k_is)
  (case i_Like_Other => kit_is)
  (case it0_Near => k_is)
  (case it1_Near => k_is)
  (case it2_Near => k_is)
  (case it3_Near => k_is)
  (case i_Near_Other => kit_is)
  (case it0_Other => k_is)
  (case it1_Other => k_is)
  (case it2_Other => k_is)
  (case it3_Other => k_is)
  (case i_Other_Other => kit_is)
  (case it0_Former => k_is)
  (case it1_Former => k_is)
  (case it2_Former => k_is)
  (case it3_Former => k_is)
  (case i_Former_Other => kit_is)
  (case i_Same_Near => kit_is)
  (case i_Like_Near => kit_is)
  (case i_Near_Near => kit_is)
  (case i_Other_Near => kit_is)
  (case i_Former_Near => kit_is)
  (case i_Same_Like => kit_is)
  (case i_Like_Like => kit_is)
  (case i_Near_Like => kit_is)
  (case i_Other_Like => kit_is)
  (case i_Former_Like => kit_is)
  (case i_Same_Same => kit_is)
  (case i_Like_Same => kit_is)
  (case i_Near_Same => kit_is)
  (case i_Other_Same => kit_is)
  (case i_Former_Same => kit_is)
  (case i_Same_Former => kit_is)
  (case i_Like_Former => kit_is)
  (case i_Near_Former => kit_is)
  (case i_Other_Former => kit_is)
  (case i_Former_Former => kit_is)
  (case i_Same_Rule => kit_is)
  (case i_Like_Rule => kit_is)
  (case i_Near_Rule => kit_is)
  (case i_Other_Rule => kit_is)
  (case i_Former_Rule => kit_is)
  (case ca0_Rule_init => k_is)
  (case ca1_Rule_init => k_is)
  (case ca2_Rule_init => k_is)
  (case l_FIELDS => k_is)
  (case y_abs => k_is)
  (case y_all => k_is)
  (case y_bool => k_is)
  (case y_enumerate => k_is)
  (case y_int => k_is)
  (case y_isinstance => k_is)
  (case y_len => k_is)
  (case y_list => k_is)
  (case y_range => k_is)
  (case y_str => k_is)
  (case y_zip => k_is)
