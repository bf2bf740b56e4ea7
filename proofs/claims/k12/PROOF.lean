import PyProof.Rows.All
import Wide.All
import OpenK.AllK
import Wide.FinOn
import Lean
import PyProof.EqAt
import PyProof.EqKinds
import PyProof.TupleCall
import KE.KSortTup
import PySem.SetTable
import KE.KDictList
import PyProof.Rows.SeqMore
import PyProof.StrLawsIn
import PyProof.MeetsStr3
import PyProof.Rows.StrSplitMax
import KE.KDictLaws
import PyProof.Rows.CallKwBuiltin
import PyProof.ZipIter
import PyProof.Rows.ZipGen
import PyProof.Rows.StrWeight2
import KE.KDictSum
import KE.KTryMore
import PyProof.Rows.TopTwo
import PyProof.ExcBaseAll.ValueError
import KE.RegKIsAll
import KE.RegKTryMore
import PyProof.ExcAttrAll.ValueError
import PyProof.Rows.StrDouble
import KE.KIntText
import PyProof.CallStr
import PyProof.ExcInit
import OpenK.KCls
import PyProof.Rows.FStr
import PyProof.Rows.FStrParts
import PyProof.InstStoreFacts
import OpenK.KMake
import PyProof.Logic
import PyProof.Rows.StrJoinMade
import PyProof.ReprRoads
import PyProof.ReprLen
import PyProof.StrLawsRepr
import PySem.Challenge.RW_folk_k12_texts_of_books_refused
set_option genSizeOf false
set_option bootstrap.genMatcherCode false
noncomputable section
set_option Elab.async false
set_option linter.all false
set_option maxRecDepth 100000
namespace L2
open PySem PySem.Spec PyProof.Rows
noncomputable abbrev Key := Sum Int Str
noncomputable def zno : Key -> Value -> Bool
 | .inl k, v => Value.isInt k v
 | .inr x, v => Value.isStrOf x v
noncomputable def keyH (w : World) : Key -> Int
 | .inl k => hashInt k
 | .inr x => hashStr w x
theorem zay : ∀ {k : Key} {v : Value}, zno k v = true -> (∃ i t, k = Sum.inl i /\ v = Value.int i t) \/ (∃ x t, k = Sum.inr x /\ v = Value.str x t)
 | .inl i, v, h => by
  obtain ⟨t, e⟩ := Value.isInt_shape (k:=i) (v:=v) h
  exact .inl ⟨i, t, rfl, e⟩
 | .inr x, v, h => by
  obtain ⟨t, e⟩ := Value.isStrOf_shape (x:=x) (v:=v) h
  exact .inr ⟨x, t, rfl, e⟩
theorem zos (i : Int) (t : Tok) : zno (.inl i) (.int i t) = true := by simp [zno, Value.isInt]
theorem zqw (x : Str) (t : Tok) : zno (.inr x) (.str x t) = true := by simp [zno, Value.isStrOf]
theorem zxm (a b : Int) : decide ((Sum.inl a : Key) = Sum.inl b) = (a == b) := by
 by_cases e : a = b
 ·subst e; simp
 ·have h : ¬ (Sum.inl a : Key) = Sum.inl b := fun q => e (Sum.inl.inj q)
  rw [decide_eq_false h]
  exact (beq_eq_false_iff_ne.mpr e).symm
theorem zw6 (a b : Str) : decide ((Sum.inr a : Key) = Sum.inr b) = decide (a = b) := by
 by_cases e : a = b
 ·subst e; simp
 ·have h : ¬ (Sum.inr a : Key) = Sum.inr b := fun q => e (Sum.inr.inj q)
  rw [decide_eq_false h, decide_eq_false e]
theorem zxb (a : Int) (b : Str) : decide ((Sum.inl a : Key) = Sum.inr b) = false := decide_eq_false (fun q => nomatch q)
theorem zxd (a : Str) (b : Int) : decide ((Sum.inr a : Key) = Sum.inl b) = false := decide_eq_false (fun q => nomatch q)
noncomputable def zav (prog : Program) (w : World) : PySem.KeyKind prog w Key where
 is := zno
 hash := keyH w
 inj := fun v a b ha hb => by
  rcases zay ha with ⟨i, t, rfl, rfl⟩ | ⟨x, t, rfl, rfl⟩
  ·rcases zay hb with ⟨j, u, rfl, e⟩ | ⟨y, u, rfl, e⟩
   ·injection e with e1 _; rw [e1]
   ·exact nomatch e
  ·rcases zay hb with ⟨j, u, rfl, e⟩ | ⟨y, u, rfl, e⟩
   ·exact nomatch e
   ·injection e with e1 _; rw [e1]
 byValue := fun k v h => by
  rcases zay h with ⟨i, t, rfl, rfl⟩ | ⟨x, t, rfl, rfl⟩ <;> rfl
 pyHash := fun hv h => by
  rcases zay hv with ⟨i, t, rfl, rfl⟩ | ⟨x, t, rfl, rfl⟩
  ·exact wpAny_pyHash_int h
  ·exact wpAny_pyHash_str h
 eqBool := fun hu hv h => by
  rcases zay hu with ⟨i, t, rfl, rfl⟩ | ⟨x, t, rfl, rfl⟩
  ·rcases zay hv with ⟨j, u, rfl, rfl⟩ | ⟨y, u, rfl, rfl⟩
   ·rw [zxm] at h; exact wpAny_eqBool_int h
   ·rw [zxb] at h; exact SeqAt.EqAt.int_str i t y u _ _ _ _ h
  ·rcases zay hv with ⟨j, u, rfl, rfl⟩ | ⟨y, u, rfl, rfl⟩
   ·rw [zxd] at h; exact SeqAt.EqAt.str_int x t j u _ _ _ _ h
   ·rw [zw6] at h; exact wpAny_eqBool_str h
 «strs» := fun k x t v h => by
  rcases zay h with ⟨i, u, rfl, e⟩ | ⟨y, u, rfl, e⟩
  ·exact nomatch e
  ·injection e with e1 _
   subst e1
   cases v <;> rfl
theorem zlm (prog : Program) (w : World) (i : Int) (t : Tok) : (zav prog w).is (.inl i) (.int i t) = true := zos i t
theorem zlv (prog : Program) (w : World) (x : Str) (t : Tok) : (zav prog w).is (.inr x) (.str x t) = true := zqw x t
end L2
namespace L2
open PySem PySem.Spec PyProof.Rows
inductive V where
 | non | bl (b : Bool) | int (i : Int) | str (x : Str) | byt (b : Array UInt8) | flt (b : UInt64) | ref (a : Addr) | ty (n : String)
 deriving DecidableEq
noncomputable def RelV : V -> Value -> Prop
 | .non, u => u = Value.none
 | .bl b, u => u = Value.bool b
 | .int i, u => ∃ t, u = Value.int i t
 | .str x, u => ∃ t, u = Value.str x t
 | .byt b, u => ∃ t, u = Value.bytes b t
 | .flt b, u => ∃ t, u = Value.float b t
 | .ref a, u => u = Value.ref a
 | .ty n, u => u = Value.type n
noncomputable abbrev Vals : List V -> List Value -> Prop := Paired RelV
theorem Vals.length {xs : List V} {us : List Value} (r : Vals xs us) : xs.length = us.length := Paired.length r
theorem Vals.get : ∀ {xs : List V} {us : List Value} {i : Nat} {x : V}, Vals xs us -> xs[i]? = some x -> ∃ u, us[i]? = some u /\ RelV x u
 | _, _, _, _, .nil, e => by simp at e
 | _, _, 0, _, .cons r _, e => by simp at e; subst e; exact ⟨_, rfl, r⟩
 | _, _, i + 1, x, .cons _ t, e => by
  obtain ⟨u, h1, h2⟩ := Vals.get (i:=i) (x:=x) t (by simpa using e)
  exact ⟨u, by simpa using h1, h2⟩
theorem Vals.append : ∀ {xs ys : List V} {us ws : List Value}, Vals xs us -> Vals ys ws -> Vals (xs ++ ys) (us ++ ws)
 | _, _, _, _, .nil, s => s
 | _, _, _, _, .cons r t, s => .cons r (Vals.append t s)
theorem Vals.take : ∀ {xs : List V} {us : List Value} (n : Nat), Vals xs us -> Vals (xs.take n) (us.take n)
 | _, _, 0, _ => .nil
 | _, _, _ + 1, .nil => .nil
 | _, _, n + 1, .cons r t => .cons r (Vals.take n t)
theorem Vals.drop : ∀ {xs : List V} {us : List Value} (n : Nat), Vals xs us -> Vals (xs.drop n) (us.drop n)
 | _, _, 0, r => r
 | _, _, _ + 1, .nil => .nil
 | _, _, n + 1, .cons _ t => Vals.drop n t
noncomputable def RelO : Option V -> Option Value -> Prop
 | some v, some u => RelV v u
 | none, none => True
 | _, _ => False
noncomputable def KV {κ : Type} : List (κ × V) -> List (κ × Value) -> Prop := Paired fun (p : κ × V) (q : κ × Value) => p.1 = q.1 /\ RelV p.2 q.2
noncomputable def kV : Key -> V
 | .inl i => .int i
 | .inr x => .str x
inductive HO where
 /-- a list -/
 | lst (xs : List V)
 /-- a tuple (never changes) -/
 | tup (xs : List V)
 /-- a dict whose keys are ints and texts; one whose keys are tuples of ints and texts (the empty one is both) -/
 | dK (kvs : List (Key × V)) | dT (kvs : List (List Key × V))
 /-- a set of ints: its members, its size -/
 | set (S : Int -> Bool) (n : Nat)
 /-- an instance of the class at C, its dict at dx, its attributes -/
 | ins (C dx : Addr) (fs : List (Str × V))
 /-- the dict of the instance at x -/
 | own (x : Addr)
 /-- the dict of an exception -/
 | xd (fs : List (Str × V))
 /-- a bound method, f of x -/
 | met (f x : Addr)
 /-- a range object lo, lo + 1, .. below hi -/
 | rng (lo hi : Int)
 /-- a thing that is known to the object (the script; a dict while a loop walks it): read, never written while it is so -/
 | frz (o : Obj) (u : HO)
 /-- a code object's table -/
 | tbl (ps : Array Value)
 /-- any other thing, by what is true of its one object (a def of one's own: SetO a S n := HO.ext fun h => ..) -/
 | ext (φ : Heap -> Prop)
noncomputable abbrev Hp := Addr -> Option HO
noncomputable def upd (H : Hp) (a : Addr) (o : HO) : Hp := fun b => if b = a then some o else H b
theorem zal {H : Hp} {a : Addr} {o : HO} : upd H a o a = some o := by unfold upd; rw [if_pos rfl]
theorem zaj {H : Hp} {a b : Addr} {o : HO} (h : b ≠ a) : upd H a o b = H b := by unfold upd; rw [if_neg h]
theorem zyb {H : Hp} {a b : Addr} {o u : HO} (h : H a = some o) (h' : H b = some u) (d : o ≠ u) : a ≠ b := by
 intro e; subst e; rw [h] at h'; exact d (Option.some.inj h')
theorem zam {H : Hp} {a b : Addr} {o : HO} (h : H a = some o) (h' : H b = none) : a ≠ b := by
 intro e; subst e; rw [h] at h'; cases h'
section
variable (P : Program) (w : World)
noncomputable def zc2 (H : Hp) (h : Heap) (a : Addr) : HO -> Prop
 | .lst xs => xs.length <= sizeLine /\ ∃ (its : List Value) (n : Nat), Vals xs its /\ h.get? a = some { cls := .type "list", data := .seq its.toArray n }
 | .tup xs => xs.length <= sizeLine /\ ∃ its : List Value, Vals xs its /\ IsTup h a its.toArray
 | .dK kvs => kvs.length <= sizeLine /\ (a == sysModules) = false /\ ∃ vs, KV kvs vs /\ h.DictOf (zav P w) a vs
 | .dT kvs => kvs.length <= sizeLine /\ (a == sysModules) = false /\ ∃ xs : List (List Key × Addr × Value),
   Paired (fun (p : List Key × V) (q : List Key × Addr × Value) => p.1 = q.1 /\ H q.2.1 = some (.tup (p.1.map kV)) /\ RelV p.2 q.2.2) kvs xs /\
   ∃ o es ep, h.get? a = some o /\ o.ExactDict /\ o.data = .dict es ep /\ es.toList = xs.map (entryOfKey (tupleKind (zav P w))) /\ (xs.map (·.1)).Nodup
 | .set S n => h.SetOf (intKind P w) a S n
 | .ins C dx fs => H dx = some (.own a) /\ fs.length <= 1000 /\ dx ≠ a /\ h.get? a = some (PySem.W.instObj C dx) /\
   ∃ mA, h.Ns1 dx mA /\ (∀ f, RelO (fs.lookup f) (mA f)) /\ PySem.Within mA (fs.map (·.1))
 | .own _ => ∃ o, h.get? a = some o
 | .xd fs => ∃ mA, h.Ns1 a mA /\ ∀ f, RelO (fs.lookup f) (mA f)
 | .rng lo hi => ∃ t u v, h.get? a = some { cls := .type "range", data := .fields #[.int lo t, .int hi u, .int 1 v] }
 | .frz o u => h.get? a = some o /\ zc2 H h a u
 | .tbl ps => h.get? a = some { cls := .none, data := .fields ps }
 | .met f x => h.get? a = some (PySem.W.methodObj (.ref f) (.ref x))
 | .ext φ => φ h /\ (∃ o, h.get? a = some o) /\ ∀ h1 h2 : Heap, φ h1 -> (∀ o, h1.get? a = some o -> h2.get? a = some o) -> φ h2
noncomputable def HOk (H : Hp) (h : Heap) : Prop := ∀ a o, H a = some o -> zc2 P w H h a o
end
section
variable {P : Program} {w : World} {H H' : Hp} {h h' : Heap} {a : Addr} {o : HO}
theorem zc2.lt (x : zc2 P w H h a o) : a < h.objs.size := by
 cases o with
 | lst xs => obtain ⟨_, _, _, _, e⟩ := x; exact Heap.lt_size e
 | tup xs => obtain ⟨_, _, _, p⟩ := x; exact p.lt
 | dK kvs => obtain ⟨_, _, _, _, o, _, _, e, _⟩ := x; exact Heap.lt_size e
 | dT kvs => obtain ⟨_, _, _, _, o, _, _, e, _⟩ := x; exact Heap.lt_size e
 | set S n => obtain ⟨o, _, _, _, e, _⟩ := x; exact Heap.lt_size e
 | ins C dx fs => obtain ⟨_, _, _, e, _⟩ := x; exact Heap.lt_size e
 | own y => obtain ⟨_, e⟩ := x; exact Heap.lt_size e
 | xd fs => obtain ⟨_, ⟨_, _, _, e, _⟩, _⟩ := x; exact Heap.lt_size e
 | rng lo hi => obtain ⟨_, _, _, e⟩ := x; exact Heap.lt_size e
 | frz ob u => obtain ⟨e, _⟩ := x; exact Heap.lt_size e
 | tbl ps => exact Heap.lt_size (show h.get? a = some _ from x)
 | met f y => exact Heap.lt_size (show h.get? a = some _ from x)
 | ext φ => obtain ⟨_, ⟨_, e⟩, _⟩ := x; exact Heap.lt_size e
theorem Paired.mapP {α β : Type} {F G : α -> β -> Prop} : ∀ {l₁ : List α} {l₂ : List β}, Paired F l₁ l₂ -> (∀ a b, F a b -> G a b) -> Paired G l₁ l₂
 | _, _, .nil, _ => .nil
 | _, _, .cons r t, f => .cons (f _ _ r) (Paired.mapP t f)
theorem zc2.stay (x : zc2 P w H h a o) (k : ∀ b u, (b = a \/ H b = some (.own a)) -> h.get? b = some u -> h'.get? b = some u)
  (ho : ∀ b, H b = some (.own a) -> H' b = some (.own a)) (ht : ∀ b xs, H b = some (.tup xs) -> H' b = some (.tup xs)) : zc2 P w H' h' a o := by
 induction o with
 | lst xs => obtain ⟨z, its, n, r, e⟩ := x; exact ⟨z, its, n, r, k _ _ (.inl rfl) e⟩
 | tup xs => obtain ⟨z, its, r, ob, e, c⟩ := x; exact ⟨z, its, r, ob, k _ _ (.inl rfl) e, c⟩
 | dK kvs => obtain ⟨z, y, vs, r, ob, es, ep, e, c⟩ := x; exact ⟨z, y, vs, r, ob, es, ep, k _ _ (.inl rfl) e, c⟩
 | dT kvs =>
  obtain ⟨z, y, xs, r, ob, es, ep, e, c⟩ := x
  exact ⟨z, y, xs, Paired.mapP r fun p q z => ⟨z.1, ht _ _ z.2.1, z.2.2⟩, ob, es, ep, k _ _ (.inl rfl) e, c⟩
 | set S n => obtain ⟨ob, es, ep, t, e, c⟩ := x; exact ⟨ob, es, ep, t, k _ _ (.inl rfl) e, c⟩
 | ins C dx fs =>
  obtain ⟨d, z, ne, e, mA, ⟨od, es, ep, e2, c⟩, r⟩ := x
  exact ⟨ho _ d, z, ne, k _ _ (.inl rfl) e, mA, ⟨od, es, ep, k _ _ (.inr d) e2, c⟩, r⟩
 | own y => obtain ⟨ob, e⟩ := x; exact ⟨ob, k _ _ (.inl rfl) e⟩
 | xd fs => obtain ⟨mA, ⟨od, es, ep, e, c⟩, r⟩ := x; exact ⟨mA, ⟨od, es, ep, k _ _ (.inl rfl) e, c⟩, r⟩
 | rng lo hi => obtain ⟨t, u, v, e⟩ := x; exact ⟨t, u, v, k _ _ (.inl rfl) e⟩
 | frz ob u ih => obtain ⟨e, q⟩ := x; exact ⟨k _ _ (.inl rfl) e, ih q⟩
 | tbl ps =>
  have e : h.get? a = some { cls := .none, data := .fields ps } := x
  show h'.get? a = some { cls := .none, data := .fields ps }
  exact k a _ (.inl rfl) e
 | met f y =>
  have e : h.get? a = some (PySem.W.methodObj (.ref f) (.ref y)) := x
  show h'.get? a = some (PySem.W.methodObj (.ref f) (.ref y))
  exact k a _ (.inl rfl) e
 | ext φ => obtain ⟨p, ⟨o, e⟩, st⟩ := x; exact ⟨st _ _ p fun o q => k _ _ (.inl rfl) q, ⟨o, k _ _ (.inl rfl) e⟩, st⟩
theorem HOk.lt (x : HOk P w H h) (e : H a = some o) : a < h.objs.size := (x a o e).lt
theorem HOk.fresh (x : HOk P w H h) (e : h.objs.size <= a) : H a = none := by
 cases q : H a with
 | none => rfl
 | some u => exact absurd (Nat.lt_of_lt_of_le (x.lt q) e) (Nat.lt_irrefl _)
theorem HOk.kept (x : HOk P w H h) (k : ∀ b u, h.get? b = some u -> h'.get? b = some u) : HOk P w H h' := fun a o e =>
 (x a o e).stay (fun b u _ q => k b u q) (fun _ q => q) fun _ _ q => q
theorem HOk.laid (x : HOk P w H h) (k : ∀ b u, h.get? b = some u -> h'.get? b = some u) (hp : h.objs.size <= a) (new : zc2 P w (upd H a o) h' a o) : HOk P w (upd H a o) h' := fun b u e => by
 have hn := x.fresh hp
 by_cases hb : b = a
 ·subst hb; rw [zal] at e; cases e; exact new
 ·rw [zaj hb] at e
  exact (x b u e).stay (fun c v _ q => k c v q) (fun c q => by rw [zaj (zam q hn)]; exact q) fun c xs q => by rw [zaj (zam q hn)]; exact q
end
noncomputable def Rd (H : Hp) (a : Addr) (u : HO) : Prop := H a = some u \/ ∃ o, H a = some (.frz o u)
theorem Rd.ok {P : Program} {w : World} {H : Hp} {h : Heap} {a : Addr} {u : HO} (r : Rd H a u) (x : HOk P w H h) : zc2 P w H h a u := by
 rcases r with r | ⟨o, r⟩
 ·exact x a u r
 ·obtain ⟨_, q⟩ := x a _ r
  exact q
noncomputable def Mut : Option HO -> Prop
 | some (.lst _) => True
 | some (.dK _) => True
 | some (.dT _) => True
 | some (.set _ _) => True
 | some (.ins _ _ _) => True
 | some (.ext _) => True
 | _ => False
section
variable {P : Program} {w : World} {H : Hp} {h h' : Heap} {x e : Addr} {o' : HO}
theorem HOk.write (ok : HOk P w H h) (mu : Mut (H x)) (he : e = x \/ H e = some (.own x)) (k : ∀ b u, b ≠ e -> h.get? b = some u -> h'.get? b = some u) (heo : ∃ u, h'.get? e = some u)
  (new : zc2 P w (upd H x o') h' x o') : HOk P w (upd H x o') h' := fun b u q => by
 have nown : ∀ c y, H c = some (.own y) -> c ≠ x := fun c y r z => by subst z; rw [r] at mu; exact mu
 have ntup : ∀ c xs, H c = some (.tup xs) -> c ≠ x := fun c xs r z => by subst z; rw [r] at mu; exact mu
 by_cases hb : b = x
 ·subst hb; rw [zal] at q; cases q; exact new
 ·rw [zaj hb] at q
  by_cases hbe : b = e
  ·have q' : H b = some (.own x) := by
    rcases he with z | z
    ·exact absurd (hbe.trans z) hb
    ·rw [hbe]; exact z
   rw [q] at q'; cases q'
   obtain ⟨v, hv⟩ := heo
   exact ⟨v, by rw [hbe]; exact hv⟩
  ·refine (ok b u q).stay (fun c v hc r => k c v ?_ r) (fun c r => by rw [zaj (nown c b r)]; exact r) fun c xs r => by rw [zaj (ntup c xs r)]; exact r
   rcases hc with rfl | hc
   ·exact hbe
   ·rintro rfl
    rcases he with z | z
    ·exact nown c b hc z
    ·rw [hc] at z; cases z; exact hb rfl
end
structure Un (fs ex : List Addr) (H H' : Hp) (h h' : Heap) : Prop where
 keep : ∀ b o, h.get? b = some o -> H b = none -> b ∉ fs -> b ∉ ex -> h'.get? b = some o
 slot : ∀ b o, h.get? b = some o -> H b = none -> b ∈ fs -> b ∉ ex -> ∃ sl, h'.get? b = some { o with slots := sl }
 free : ∀ b o, h.get? b = some o -> H b = none -> b ∉ ex -> H' b = none
 there : ∀ b o, h.get? b = some o -> b ∉ ex -> ∃ o', h'.get? b = some o'
 tups : ∀ b xs, H b = some (.tup xs) -> H' b = some (.tup xs)
 frzs : ∀ b o u, H b = some (.frz o u) -> H' b = some (.frz o u)
 tbls : ∀ b ps, H b = some (.tbl ps) -> ∃ more, H' b = some (.tbl (ps ++ more))
section
variable {fs fs' ex ex' : List Addr} {H H1 H2 : Hp} {h h1 h2 h' : Heap} {a x e : Addr} {o : HO}
theorem Un.any (u : Un fs ex H H1 h h1) {b : Addr} {ob : Obj} (q : h.get? b = some ob) (n : H b = none) (hx : b ∉ ex) : ∃ sl, h1.get? b = some { ob with slots := sl } := by
 by_cases hb : b ∈ fs
 ·exact u.slot b ob q n hb hx
 ·exact ⟨ob.slots, u.keep b ob q n hb hx⟩
theorem Un.kept (k : ∀ b u, h.get? b = some u -> h'.get? b = some u) : Un fs ex H H h h' :=
 ⟨fun b ob q _ _ _ => k b ob q, fun b ob q _ _ _ => ⟨ob.slots, k b ob q⟩, fun _ _ _ n _ => n, fun b ob q _ => ⟨ob, k b ob q⟩, fun _ _ q => q, fun _ _ _ q => q, fun _ ps q => ⟨#[], by rw [q]; simp⟩⟩
theorem Un.refl : Un fs ex H H h h := Un.kept fun _ _ q => q
theorem Un.laid (k : ∀ b u, h.get? b = some u -> h'.get? b = some u) (hp : h.objs.size <= a) (hn : H a = none) : Un fs ex H (upd H a o) h h' where
 keep := fun b u q _ _ _ => k b u q
 slot := fun b u q _ _ _ => ⟨u.slots, k b u q⟩
 free := fun b u q n _ => by rw [zaj (Nat.ne_of_lt (Nat.lt_of_lt_of_le (Heap.lt_size q) hp))]; exact n
 there := fun b u q _ => ⟨u, k b u q⟩
 tups := fun b xs q => by rw [zaj (zam q hn)]; exact q
 frzs := fun b u xs q => by rw [zaj (zam q hn)]; exact q
 tbls := fun b ps q => ⟨#[], by rw [zaj (zam q hn), q]; simp⟩
theorem Un.write (mu : Mut (H x)) (he : e = x \/ H e = some (.own x)) (k : ∀ b u, b ≠ e -> h.get? b = some u -> h'.get? b = some u) (heo : ∃ u, h'.get? e = some u) : Un fs ex H (upd H x o) h h' := by
 have hx : ∀ b, H b = none -> b ≠ x := fun b n z => by subst z; rw [n] at mu; exact mu
 have hb : ∀ b, H b = none -> b ≠ e := fun b n z => by
  subst z
  rcases he with r | r
  ·exact hx b n r
  ·rw [n] at r; cases r
 have hm : ∀ b u, H b = some u -> ¬ Mut (some u) -> b ≠ x := fun b u q nm z => by subst z; rw [q] at mu; exact nm mu
 refine ⟨fun b u q n _ _ => k b u (hb b n) q, fun b u q n _ _ => ⟨u.slots, k b u (hb b n) q⟩, fun b u q n _ => by rw [zaj (hx b n)]; exact n, fun b u q _ => ?_,
  fun b xs q => by rw [zaj (hm b _ q fun z => z)]; exact q, fun b u xs q => by rw [zaj (hm b _ q fun z => z)]; exact q, fun b ps q => ⟨#[], by rw [zaj (hm b _ q fun z => z), q]; simp⟩⟩
 by_cases hbe : b = e
 ·subst hbe; exact heo
 ·exact ⟨u, k b u hbe q⟩
end
noncomputable def trk (h : Heap) (H : Hp) : List Addr := (List.range h.objs.size).filter fun a => (H a).isSome
noncomputable def hidT (h : Heap) (H : Hp) : Heap := PySem.W.hideAll h (trk h H)
theorem zpk (h : Heap) (H : Hp) : (hidT h H).objs.size = h.objs.size := PySem.W.hideAll_size _ _
theorem zr5 {h : Heap} {H : Hp} {b : Addr} {o : Obj} (e : h.get? b = some o) (n : H b = none) : (hidT h H).get? b = some o :=
 PySem.W.hideAll_get _ e fun hm => by
  have q : (H b).isSome = true := (List.mem_filter.mp hm).2
  rw [n] at q; simp at q
theorem zuw {h : Heap} {H : Hp} {b : Addr} {o : Obj} (e : (hidT h H).get? b = some o) : h.get? b = some o /\ H b = none := by
 have e' : h.get? b = some o := PySem.W.of_hideAll (trk h H) e
 refine ⟨e', ?_⟩
 cases q : H b with
 | none => rfl
 | some x =>
  have hm : b ∈ trk h H := List.mem_filter.mpr ⟨List.mem_range.mpr (Heap.lt_size e'), by simp [q]⟩
  have z : (hidT h H).get? b = none := PySem.W.hideAll_none (trk h H) hm
  rw [z] at e; cases e
noncomputable def zv9 (g h : Heap) (L : Addr) : List (Addr × Obj) := (List.range h.objs.size).filterMap fun a => if a = L \/ (g.get? a).isSome = true then none else (h.get? a).map fun o => (a, o)
noncomputable def rest (g h : Heap) (L d : Addr) : List (Addr × Obj) := (zv9 g h L).filter fun p => decide (p.1 ≠ d)
end L2
namespace L2
open PySem PySem.Spec PyProof.Rows
structure Mod (K : PySem.W.Frag) (mg : Str -> Option Value) (base : Heap) : Prop where
 kin : K.In base
 glob : base.Ns mainGlobals mg
 blt : ∃ mb, base.Ns builtinsNs mb /\ ∀ x : Str, x ≠ "__name__" -> mb x = bootBuiltins x
 nolimit : base.NoLimit
structure Cx where
 prog : Program
 w : World
 K : PySem.W.Frag
 mg : Str -> Option Value
 base : Heap
 A : Around
 N : List Str
 s₀ : Shared
 H₀ : Hp
 env : Env
 outer : List Env
 stack : List Env
 ex : List Addr
 fn : Str -> Bool
 calm : Bool
 pn : List (Addr × Obj)
 xe : Value -> Shared -> Prop
noncomputable def frs (l : List Env) : List Addr := l.filterMap (·.frame)
noncomputable abbrev Cx.fs (X : Cx) : List Addr := frs X.outer
noncomputable def Vis (sc : Scope) (x : Str) : Prop := sc.names.lookup x = some .local \/ sc.names.lookup x = some .cell \/ sc.names.lookup x = some .free
noncomputable def Loc (sc : Scope) (x : Str) : Prop := sc.names.lookup x = some .local \/ sc.names.lookup x = some .cell
noncomputable def Look (env : Env) (h : Heap) (m : Str -> Option Value) (x : Str) (u : Value) : Prop :=
 (env.kindOf x = some .local /\ m x = some u) \/ ((env.kindOf x = some .cell \/ env.kindOf x = some .free) /\ ∃ c, env.cells.lookup x = some c /\ h.IsCell c (some u))
structure Cx.Ok (X : Cx) : Prop where
 mod : Mod X.K X.mg X.base
 kind : X.env.scope.kind = .function
 glob : X.env.globals = mainGlobals
 blt : X.env.builtins = builtinsNs
 above : X.s₀.heap.objs.size <= X.env.locals
 inj : ∀ x y c, X.env.cells.lookup x = some c -> X.env.cells.lookup y = some c -> x = y
 has : ∀ x, (X.env.kindOf x = some .cell \/ X.env.kindOf x = some .free) -> ∃ c, X.env.cells.lookup x = some c
 cab : ∀ x c, X.fn x = true -> X.env.cells.lookup x = some c -> X.s₀.heap.objs.size <= c
 hd : X.calm = true -> X.A.handled = none
 frames : X.A.frames = some X.stack
 stk : X.stack = X.outer \/ (X.stack = X.env :: X.outer /\ X.env.frame = some X.env.locals)
 exf : ∀ b ∈ X.ex, b ≠ X.env.locals /\ ∀ x c, X.env.cells.lookup x = some c -> c ≠ b
 bs : ∀ b o, X.base.get? b = some o -> X.s₀.heap.get? b = some o /\ X.H₀ b = none
 bsz : X.base.objs.size <= X.s₀.heap.objs.size
 noex : ∀ b o, X.base.get? b = some o -> b ∉ X.ex
 exfs : ∀ b ∈ X.ex, b ∉ X.fs
 funs : X.s₀.heap.FunFrames X.base X.outer
 frf : ∀ b ∈ X.fs, X.H₀ b = none
structure Inv (X : Cx) (pins : List (Addr × Obj)) (σ : List (Option V)) (H : Hp) (s : Shared) : Prop where
 ok : X.Ok
 os : s.os = X.s₀.os
 bare : AllBare s.gens
 base : Un X.fs X.ex X.H₀ H X.s₀.heap s.heap
 loc : ∃ m, s.heap.Ns X.env.locals m /\ ∀ (i : Nat) (x : Str) (v : V), X.N[i]? = some x -> σ[i]? = some (some v) -> Vis X.env.scope x -> ∃ u, RelV v u /\ Look X.env s.heap m x u
 cell : ∀ x c, X.env.cells.lookup x = some c -> ∃ v, s.heap.IsCell c v
 free : H X.env.locals = none
 freeC : ∀ x c, X.env.cells.lookup x = some c -> H c = none
 pin : ∀ p ∈ X.pn ++ pins, s.heap.get? p.1 = some p.2 /\ H p.1 = none /\ p.1 ≠ X.env.locals /\ p.1 ∉ X.fs /\ ∀ v, p.2.data ≠ .cell v
 hok : HOk X.prog X.w H s.heap
 len : σ.length = X.N.length
section
variable {X : Cx} {pins : List (Addr × Obj)} {σ : List (Option V)} {H H' : Hp} {s : Shared} {h' : Heap}
theorem Cx.Ok.nofr (ok : X.Ok) {b : Addr} {o : Obj} (e : X.base.get? b = some o) : b ∉ X.fs := fun hb => by
 have := (ok.funs.mem hb).1
 rw [e] at this; cases this
theorem Inv.bs (I : Inv X pins σ H s) : ∀ b o, X.base.get? b = some o -> s.heap.get? b = some o /\ H b = none := fun b o e =>
 ⟨I.base.keep b o (I.ok.bs b o e).1 (I.ok.bs b o e).2 (I.ok.nofr e) (I.ok.noex b o e), I.base.free b o (I.ok.bs b o e).1 (I.ok.bs b o e).2 (I.ok.noex b o e)⟩
theorem Inv.bk (I : Inv X pins σ H s) : ∀ b o, X.base.get? b = some o -> s.heap.get? b = some o := fun b o e => (I.bs b o e).1
theorem Inv.mod (I : Inv X pins σ H s) : Mod X.K X.mg X.base := I.ok.mod
theorem Inv.kIn (I : Inv X pins σ H s) : X.K.In s.heap := I.ok.mod.kin.keeps I.bk
theorem Inv.fr (I : Inv X pins σ H s) : ∃ m, Fr X.base X.env.locals s.heap m :=
 let ⟨m, hn, _⟩ := I.loc
 ⟨m, hn, I.bk, Nat.le_trans I.ok.bsz I.ok.above⟩
theorem Inv.lt (I : Inv X pins σ H s) : X.env.locals < s.heap.objs.size := let ⟨_, hn, _⟩ := I.loc; hn.lt
theorem Inv.sz (I : Inv X pins σ H s) : X.s₀.heap.objs.size <= s.heap.objs.size := Nat.le_trans I.ok.above (Nat.le_of_lt I.lt)
theorem Inv.nofs (I : Inv X pins σ H s) {a : Addr} (h : s.heap.objs.size <= a) : a ∉ X.fs := fun hb => by
 obtain ⟨_, o, ho, _⟩ := I.ok.funs.mem hb
 exact absurd (Nat.lt_of_lt_of_le (Heap.lt_size ho) (Nat.le_trans I.sz h)) (Nat.lt_irrefl _)
theorem Inv.cne (I : Inv X pins σ H s) : ∀ x c, X.env.cells.lookup x = some c -> c ≠ X.env.locals := fun x c e z => by
 obtain ⟨v, o, ho, hd⟩ := I.cell x c e
 obtain ⟨m, ⟨o', es, ep, ho', hd', _⟩, _⟩ := I.loc
 rw [z, ho'] at ho; cases ho; rw [hd'] at hd; cases hd
theorem Inv.funs (I : Inv X pins σ H s) : s.heap.FunFrames X.base X.outer := by
 have all : ∀ (l : List Env), (∀ b ∈ frs l, b ∈ X.fs) -> X.s₀.heap.FunFrames X.base l -> s.heap.FunFrames X.base l := by
  intro l
  induction l with
  | nil => intro _ _; trivial
  | cons env r ih =>
   intro hs hl
   obtain ⟨hk, ⟨L, o, hf, hn, ho, hd⟩, hr⟩ := hl
   have hL : L ∈ X.fs := hs L (by unfold frs; rw [List.filterMap_cons, hf]; exact List.mem_cons_self)
   obtain ⟨sl, e⟩ := I.base.slot L o ho (I.ok.frf L hL) hL fun z => I.ok.exfs L z hL
   exact ⟨hk, ⟨L, _, hf, hn, e, hd⟩, ih (fun b hb => hs b (by unfold frs; rw [List.filterMap_cons, hf]; exact List.mem_cons_of_mem _ hb)) hr⟩
 exact all X.outer (fun _ hb => hb) I.ok.funs
theorem Inv.stack (I : Inv X pins σ H s) : s.heap.FunFrames X.base X.stack := by
 rcases I.ok.stk with e | ⟨e, hf⟩
 ·rw [e]; exact I.funs
 ·rw [e]
  obtain ⟨m, hn, _⟩ := I.loc
  refine .cons (by rw [I.ok.kind]; decide) hf hn ?_ I.funs
  exact Heap.get?_none_of_le (Nat.le_trans I.ok.bsz I.ok.above)
theorem Inv.stkSub (I : Inv X pins σ H s) : ∀ b ∈ frs X.stack, b ∈ X.env.locals :: X.fs := fun b hb => by
 rcases I.ok.stk with e | ⟨e, hf⟩
 ·rw [e] at hb; exact List.mem_cons_of_mem _ hb
 ·rw [e] at hb
  unfold frs at hb
  rw [List.filterMap_cons, hf] at hb
  exact hb
theorem Inv.stkFree (I : Inv X pins σ H s) : ∀ b ∈ frs X.stack, H b = none := fun b hb => by
 rcases List.mem_cons.mp (I.stkSub b hb) with e | hb
 ·rw [e]; exact I.free
 ·obtain ⟨_, o, ho, _⟩ := I.ok.funs.mem hb
  exact I.base.free b o ho (I.ok.frf b hb) fun z => I.ok.exfs b z hb
theorem Inv.step {g' : Array GenState} {t' : Nat} {d' : Drawn} {ch : List Addr} (I : Inv X pins σ H s)
  (hch : ∀ b ∈ ch, (b ∈ X.ex \/ X.s₀.heap.objs.size <= b) /\ b ≠ X.env.locals /\ (∀ x c, X.env.cells.lookup x = some c -> c ≠ b) /\ ∀ p ∈ X.pn ++ pins, p.1 ≠ b)
  (keep : ∀ b o, b ≠ X.env.locals -> b ∉ X.fs -> b ∉ ch -> s.heap.get? b = some o -> H b = none -> h'.get? b = some o)
  (slot : ∀ b o, b ≠ X.env.locals -> b ∈ X.fs -> b ∉ ch -> s.heap.get? b = some o -> H b = none -> ∃ sl, h'.get? b = some { o with slots := sl }) (free : ∀ b o, b ∉ ch -> s.heap.get? b = some o -> H b = none -> H' b = none)
  (there : ∀ b o, b ∉ ch -> s.heap.get? b = some o -> ∃ o', h'.get? b = some o')
  (tups : ∀ b xs, H b = some (.tup xs) -> H' b = some (.tup xs)) (frzs : ∀ b o u, H b = some (.frz o u) -> H' b = some (.frz o u)) (tbls : ∀ b ps, H b = some (.tbl ps) -> ∃ more, H' b = some (.tbl (ps ++ more)))
  (ns : ∀ m, s.heap.Ns X.env.locals m -> h'.Ns X.env.locals m) (hok : HOk X.prog X.w H' h') (hg : AllBare g') :
  Inv X pins σ H' { s with heap := h', gens := g', drawn := d', toks := t' } := by
 have neL : ∀ b o, X.s₀.heap.get? b = some o -> b ≠ X.env.locals := fun b o e => Nat.ne_of_lt (Nat.lt_of_lt_of_le (Heap.lt_size e) I.ok.above)
 have neC : ∀ b o, X.s₀.heap.get? b = some o -> b ∉ X.ex -> b ∉ ch := fun b o e hx hb => by
  rcases (hch b hb).1 with z | z
  ·exact hx z
  ·exact absurd (Nat.lt_of_lt_of_le (Heap.lt_size e) z) (Nat.lt_irrefl _)
 have cellK : ∀ x c, X.env.cells.lookup x = some c -> ∀ v, s.heap.IsCell c v -> h'.IsCell c v := fun x c e v ⟨o, ho, hd⟩ => by
  have nch : c ∉ ch := fun z => (hch c z).2.2.1 x c e rfl
  by_cases hc : c ∈ X.fs
  ·obtain ⟨sl, q⟩ := slot c o (I.cne x c e) hc nch ho (I.freeC x c e)
   exact ⟨_, q, hd⟩
  ·exact ⟨o, keep c o (I.cne x c e) hc nch ho (I.freeC x c e), hd⟩
 refine ⟨I.ok, I.os, hg, ⟨fun b o e n hb hx => ?_, fun b o e n hb hx => ?_, fun b o e n hx => ?_, fun b o e hx => ?_, fun b xs e => tups b xs (I.base.tups b xs e), fun b o xs e => frzs b o xs (I.base.frzs b o xs e), fun b ps e => ?_⟩, ?_, fun x c e => ?_, ?_, fun x c e => ?_, fun p hp => ?_, hok, I.len⟩
 ·exact keep b o (neL b o e) hb (neC b o e hx) (I.base.keep b o e n hb hx) (I.base.free b o e n hx)
 ·obtain ⟨sl, e1⟩ := I.base.slot b o e n hb hx
  obtain ⟨sl', e2⟩ := slot b _ (neL b o e) hb (neC b o e hx) e1 (I.base.free b o e n hx)
  exact ⟨sl', e2⟩
 ·obtain ⟨o', e1⟩ := I.base.there b o e hx
  exact free b o' (neC b o e hx) e1 (I.base.free b o e n hx)
 ·obtain ⟨o', e1⟩ := I.base.there b o e hx
  exact there b o' (neC b o e hx) e1
 ·obtain ⟨m1, e1⟩ := I.base.tbls b ps e
  obtain ⟨m2, e2⟩ := tbls b _ e1
  exact ⟨m1 ++ m2, by rw [e2, Array.append_assoc]⟩
 ·obtain ⟨m, hn, hl⟩ := I.loc
  refine ⟨m, ns m hn, fun i x v e1 e2 e3 => ?_⟩
  obtain ⟨u, r, l⟩ := hl i x v e1 e2 e3
  refine ⟨u, r, ?_⟩
  rcases l with l | ⟨k, c, e, z⟩
  ·exact .inl l
  ·exact .inr ⟨k, c, e, cellK x c e _ z⟩
 ·obtain ⟨v, z⟩ := I.cell x c e
  exact ⟨v, cellK x c e v z⟩
 ·obtain ⟨m, ⟨o, _, _, ho, _⟩, _⟩ := I.loc
  exact free _ o (fun z => (hch _ z).2.1 rfl) ho I.free
 ·obtain ⟨v, o, ho, hd⟩ := I.cell x c e
  exact free c o (fun z => (hch c z).2.2.1 x c e rfl) ho (I.freeC x c e)
 ·obtain ⟨e, n, ne, nf, d⟩ := I.pin p hp
  have nch : p.1 ∉ ch := fun z => (hch p.1 z).2.2.2 p hp rfl
  exact ⟨keep p.1 p.2 ne nf nch e n, free p.1 p.2 nch e n, ne, nf, d⟩
theorem Inv.un {t' : Nat} (I : Inv X pins σ H s) (u : Un X.fs [] H H' s.heap h') (hok : HOk X.prog X.w H' h') : Inv X pins σ H' { s with heap := h', toks := t' } := by
 obtain ⟨m, ⟨o, es, ep, ho, r⟩, _⟩ := id I.loc
 obtain ⟨sl, hL⟩ := u.any ho I.free (by simp)
 exact I.step (g':=s.gens) (d':=s.drawn) (ch:=[]) (fun _ z => nomatch z) (fun b o _ hb _ e n => u.keep b o e n hb (by simp)) (fun b o _ hb _ e n => u.slot b o e n hb (by simp)) (fun b o _ e n => u.free b o e n (by simp)) (fun b o _ e => u.there b o e (by simp)) u.tups u.frzs u.tbls (fun m' hm => by
  obtain ⟨o', es', ep', ho', r'⟩ := hm
  rw [ho] at ho'; cases ho'
  exact ⟨_, es', ep', hL, r'⟩) hok I.bare
theorem Inv.call {g' : Array GenState} {t' : Nat} {d' : Drawn} {ch : List Addr} (I : Inv X pins σ H s) (u : Un (frs X.stack) ch H H' s.heap h') (hok : HOk X.prog X.w H' h') (hg : AllBare g')
  (hch : ∀ b ∈ ch, (b ∈ X.ex \/ X.s₀.heap.objs.size <= b) /\ b ≠ X.env.locals /\ (∀ x c, X.env.cells.lookup x = some c -> c ≠ b) /\ ∀ p ∈ X.pn ++ pins, p.1 ≠ b) :
  Inv X pins σ H' { s with heap := h', gens := g', drawn := d', toks := t' } := by
 obtain ⟨m, ⟨o, es, ep, ho, r⟩, _⟩ := id I.loc
 obtain ⟨sl, hL⟩ := u.any ho I.free fun z => (hch _ z).2.1 rfl
 exact I.step (ch:=ch) hch (fun b o hL hb hc e n => u.keep b o e n (fun z => (List.mem_cons.mp (I.stkSub b z)).elim hL hb) hc) (fun b o _ _ hc e n => u.any e n hc) (fun b o hc e n => u.free b o e n hc) (fun b o hc e => u.there b o e hc) u.tups u.frzs u.tbls (fun m' hm => by
  obtain ⟨o', es', ep', ho', r'⟩ := hm
  rw [ho] at ho'; cases ho'
  exact ⟨_, es', ep', hL, r'⟩) hok hg
theorem Inv.turned {t' : Nat} {it : Addr} (I : Inv X pins σ H s) (k : ∀ b o, b ≠ it -> s.heap.get? b = some o -> h'.get? b = some o) (hn : H it = none) (hL : it ≠ X.env.locals)
  (h1 : it ∈ X.ex \/ X.s₀.heap.objs.size <= it) (h2 : ∀ x c, X.env.cells.lookup x = some c -> c ≠ it) (h3 : ∀ p ∈ X.pn ++ pins, p.1 ≠ it) : Inv X pins σ H { s with heap := h', toks := t' } := by
 have nit : ∀ b u, H b = some u -> b ≠ it := fun b u e z => by rw [z, hn] at e; cases e
 refine I.step (g':=s.gens) (d':=s.drawn) (ch:=[it]) (fun b hb => ?_) (fun b o _ _ hc e _ => k b o (fun z => hc (by simp [z])) e) (fun b o _ _ hc e _ => ⟨o.slots, k b o (fun z => hc (by simp [z])) e⟩) (fun _ _ _ _ n => n)
  (fun b o hc e => ⟨o, k b o (fun z => hc (by simp [z])) e⟩) (fun _ _ e => e) (fun _ _ _ e => e) (fun b ps e => ⟨#[], by rw [e]; simp⟩) (fun m hm => ?_) (fun b u e => ?_) I.bare
 ·have e : b = it := by simpa using hb
  subst e
  exact ⟨h1, hL, h2, h3⟩
 ·obtain ⟨o, es, ep, ho, r⟩ := hm
  exact ⟨o, es, ep, k _ o (Ne.symm hL) ho, r⟩
 ·refine (I.hok b u e).stay (fun c v hc q => k c v ?_ q) (fun _ q => q) fun _ _ q => q
  rcases hc with z | z
  ·rw [z]; exact nit b u e
  ·exact nit c _ z
theorem Inv.tok (I : Inv X pins σ H s) (t : Nat) : Inv X pins σ H { s with toks := t } := I.un (h':=s.heap) (t':=t) Un.refl I.hok
theorem Inv.kept {t' : Nat} (I : Inv X pins σ H s) (k : ∀ b u, s.heap.get? b = some u -> h'.get? b = some u) : Inv X pins σ H { s with heap := h', toks := t' } := I.un (Un.kept k) (I.hok.kept k)
theorem Inv.laid {a : Addr} {o : HO} {t' : Nat} (I : Inv X pins σ H s) (k : ∀ b u, s.heap.get? b = some u -> h'.get? b = some u) (hp : s.heap.objs.size <= a) (new : zc2 X.prog X.w (upd H a o) h' a o) :
  Inv X pins σ (upd H a o) { s with heap := h', toks := t' } := I.un (Un.laid k hp (I.hok.fresh hp)) (I.hok.laid k hp new)
theorem Inv.write {x e : Addr} {o : HO} {t' : Nat} (I : Inv X pins σ H s) (mu : Mut (H x)) (he : e = x \/ H e = some (.own x)) (k : ∀ b u, b ≠ e -> s.heap.get? b = some u -> h'.get? b = some u) (heo : ∃ u, h'.get? e = some u)
  (new : zc2 X.prog X.w (upd H x o) h' x o) : Inv X pins σ (upd H x o) { s with heap := h', toks := t' } := I.un (Un.write mu he k heo) (I.hok.write mu he k heo new)
theorem Inv.weak {σ' : List (Option V)} (I : Inv X pins σ H s) (hl : σ'.length = σ.length) (w : ∀ (i : Nat) v, σ'[i]? = some (some v) -> σ[i]? = some (some v)) : Inv X pins σ' H s :=
 ⟨I.ok, I.os, I.bare, I.base, let ⟨m, hn, hl'⟩ := I.loc; ⟨m, hn, fun i x v e1 e2 e3 => hl' i x v e1 (w i v e2) e3⟩, I.cell, I.free, I.freeC, I.pin, I.hok, hl.trans I.len⟩
theorem Inv.pins_of {pins' : List (Addr × Obj)} (I : Inv X pins σ H s) (h : ∀ p ∈ pins', s.heap.get? p.1 = some p.2 /\ H p.1 = none /\ p.1 ≠ X.env.locals /\ p.1 ∉ X.fs /\ ∀ v, p.2.data ≠ .cell v) : Inv X pins' σ H s :=
 ⟨I.ok, I.os, I.bare, I.base, I.loc, I.cell, I.free, I.freeC, fun p hp => (List.mem_append.mp hp).elim (fun z => I.pin p (List.mem_append_left _ z)) (h p), I.hok, I.len⟩
theorem zh9 {N : List Str} (hN : N.Nodup) {i j : Nat} {x : Str} (a : N[i]? = some x) (b : N[j]? = some x) : i = j := by
 obtain ⟨h1, e1⟩ := List.getElem?_eq_some_iff.mp a
 obtain ⟨h2, e2⟩ := List.getElem?_eq_some_iff.mp b
 exact (List.getElem_inj hN).mp (e1.trans e2.symm)
theorem zo4 {M : Model} {A : Around} {E : Value -> Shared -> Prop} {i : Nat} {x : Str} {v : V} {u : Value} {Q : Unit -> Shared -> Prop} (I : Inv X pins σ H s) (hN : X.N.Nodup) (hi : X.N[i]? = some x) (hx : Loc X.env.scope x) (r : RelV v u)
  (h : ∀ s', Inv X pins (σ.set i (some v)) H s' -> (∃ a, Heap.SameBut a s.heap s'.heap /\ (a = X.env.locals \/ X.env.cells.lookup x = some a)) -> Q () s') (hf : X.fn x = true \/ X.env.scope.names.lookup x = some .local := by first | exact .inl rfl | exact .inr rfl | assumption) : wpAny M A (storeName X.env x u) Q E s := by
 obtain ⟨m, hn, hl⟩ := id I.loc
 have hcls : (X.env.scope.kind == .class || (X.env.scope.kind == .module && X.env.locals != X.env.globals)) = false := by rw [I.ok.kind]; rfl
 have hiσ : i < σ.length := by rw [I.len]; exact (List.getElem?_eq_some_iff.mp hi).1
 have cne := I.cne
 have tracked : ∀ {a : Addr} {h' : Heap}, (∃ o, s.heap.get? a = some o /\ H a = none) -> Heap.SameBut a s.heap h' -> HOk X.prog X.w H h' := fun {a h'} ha hs b ob e => by
  obtain ⟨_, _, hfree⟩ := ha
  refine (I.hok b ob e).stay (fun c w' hc q => (hs.2 c ?_).trans q) (fun _ q => q) fun _ _ q => q
  rintro rfl
  rcases hc with rfl | hc
  ·rw [hfree] at e; cases e
  ·rw [hfree] at hc; cases hc
 rcases hx with hk | hk
 ·refine wpAny_storeName_local hk hn (fun h' hn' hs => ?_) hcls
  obtain ⟨oL, _, _, hoL, _⟩ := id hn
  refine h _ ⟨I.ok, I.os, I.bare, ⟨fun b o e n hb hx => ?_, fun b o e n hb hx => ?_, I.base.free, fun b o e hx => ?_, I.base.tups, I.base.frzs, I.base.tbls⟩, ⟨_, hn', fun j y v' e1 e2 e3 => ?_⟩, fun y c e => ?_, I.free, I.freeC, fun p hp => ?_, tracked ⟨oL, hoL, I.free⟩ hs, by simpa using I.len⟩ ⟨_, hs, .inl rfl⟩
  ·exact (hs.2 b (Nat.ne_of_lt (Nat.lt_of_lt_of_le (Heap.lt_size e) I.ok.above))).trans (I.base.keep b o e n hb hx)
  ·obtain ⟨sl, e1⟩ := I.base.slot b o e n hb hx
   exact ⟨sl, (hs.2 b (Nat.ne_of_lt (Nat.lt_of_lt_of_le (Heap.lt_size e) I.ok.above))).trans e1⟩
  ·obtain ⟨o', e1⟩ := I.base.there b o e hx
   exact ⟨o', (hs.2 b (Nat.ne_of_lt (Nat.lt_of_lt_of_le (Heap.lt_size e) I.ok.above))).trans e1⟩
  ·by_cases hj : j = i
   ·subst hj
    rw [hi] at e1; cases e1
    rw [List.getElem?_set_self hiσ] at e2
    cases e2
    exact ⟨u, r, .inl ⟨hk, by simp⟩⟩
   ·rw [List.getElem?_set_ne (Ne.symm hj)] at e2
    obtain ⟨u', r', q⟩ := hl j y v' e1 e2 e3
    refine ⟨u', r', ?_⟩
    rcases q with ⟨k, e⟩ | ⟨k, c, e, z⟩
    ·refine .inl ⟨k, ?_⟩
     have : y ≠ x := fun e => hj (zh9 hN e1 (e ▸ hi))
     simp [this, e]
    ·exact .inr ⟨k, c, e, z.sameBut hs (cne y c e)⟩
  ·obtain ⟨w', z⟩ := I.cell y c e
   exact ⟨w', z.sameBut hs (cne y c e)⟩
  ·obtain ⟨e, n, ne, nf, d⟩ := I.pin p hp
   exact ⟨(hs.2 p.1 ne).trans e, n, ne, nf, d⟩
 ·have hfn : X.fn x = true := by
   rcases hf with z | z
   ·exact z
   ·rw [z] at hk; cases hk
  obtain ⟨c, hc⟩ := I.ok.has x (.inl hk)
  obtain ⟨w', z⟩ := I.cell x c hc
  refine wpAny_storeName_cell I.ok.kind hk hc z (fun h' hc' hs => ?_)
  obtain ⟨oc, hoc, hocd⟩ := id z
  refine h { s with heap := h' } ⟨I.ok, I.os, I.bare, ⟨fun b o e n hb hx => ?_, fun b o e n hb hx => ?_, I.base.free, fun b o e hx => ?_, I.base.tups, I.base.frzs, I.base.tbls⟩, ⟨m, hn.sameBut hs (Ne.symm (cne x c hc)), fun j y v' e1 e2 e3 => ?_⟩, fun y c' e => ?_, I.free, I.freeC, fun p hp => ?_, tracked ⟨oc, hoc, I.freeC x c hc⟩ hs, by simpa using I.len⟩ ⟨c, hs, .inr hc⟩
  ·exact (hs.2 b (Nat.ne_of_lt (Nat.lt_of_lt_of_le (Heap.lt_size e) (I.ok.cab x c hfn hc)))).trans (I.base.keep b o e n hb hx)
  ·obtain ⟨sl, e1⟩ := I.base.slot b o e n hb hx
   exact ⟨sl, (hs.2 b (Nat.ne_of_lt (Nat.lt_of_lt_of_le (Heap.lt_size e) (I.ok.cab x c hfn hc)))).trans e1⟩
  ·obtain ⟨o', e1⟩ := I.base.there b o e hx
   exact ⟨o', (hs.2 b (Nat.ne_of_lt (Nat.lt_of_lt_of_le (Heap.lt_size e) (I.ok.cab x c hfn hc)))).trans e1⟩
  ·by_cases hj : j = i
   ·subst hj
    rw [hi] at e1; cases e1
    rw [List.getElem?_set_self hiσ] at e2
    cases e2
    exact ⟨u, r, .inr ⟨.inl hk, c, hc, hc'⟩⟩
   ·rw [List.getElem?_set_ne (Ne.symm hj)] at e2
    obtain ⟨u', r', q⟩ := hl j y v' e1 e2 e3
    refine ⟨u', r', ?_⟩
    rcases q with q | ⟨k, c', e, z'⟩
    ·exact .inl q
    ·refine .inr ⟨k, c', e, z'.sameBut hs ?_⟩
     rintro rfl
     exact hj (zh9 hN e1 (I.ok.inj _ _ _ e hc ▸ hi))
  ·by_cases hcc : c' = c
   ·subst hcc; exact ⟨_, hc'⟩
   ·obtain ⟨w2, z2⟩ := I.cell y c' e
    exact ⟨w2, z2.sameBut hs hcc⟩
  ·obtain ⟨e, n, ne, nf, d⟩ := I.pin p hp
   refine ⟨(hs.2 p.1 ?_).trans e, n, ne, nf, d⟩
   intro q
   rw [q, hoc] at e
   have q' : oc = p.2 := Option.some.inj e
   exact d w' (by rw [<- q']; exact hocd)
theorem zft {M : Model} {A : Around} {E : Value -> Shared -> Prop} {i : Nat} {x : Str} {v : V} {u : Value} {Q : Unit -> Shared -> Prop} (I : Inv X pins σ H s) (hN : X.N.Nodup) (hi : X.N[i]? = some x) (hx : Loc X.env.scope x) (r : RelV v u)
  (h : ∀ s', Inv X pins (σ.set i (some v)) H s' -> Q () s') (hf : X.fn x = true \/ X.env.scope.names.lookup x = some .local := by first | exact .inl rfl | exact .inr rfl | assumption) : wpAny M A (storeName X.env x u) Q E s :=
 zo4 I hN hi hx r (fun s' I' _ => h s' I') hf
theorem Inv.call' {s' : Shared} {ch : List Addr} (I : Inv X pins σ H s) (ho : s'.os = s.os) (u : Un (frs X.stack) ch H H' s.heap s'.heap) (hok : HOk X.prog X.w H' s'.heap) (hg : AllBare s'.gens)
  (hch : ∀ b ∈ ch, (b ∈ X.ex \/ X.s₀.heap.objs.size <= b) /\ b ≠ X.env.locals /\ (∀ x c, X.env.cells.lookup x = some c -> c ≠ b) /\ ∀ p ∈ X.pn ++ pins, p.1 ≠ b) : Inv X pins σ H' s' := by
 obtain ⟨h', g', d', t', o'⟩ := s'
 have e : o' = s.os := ho
 subst e
 exact I.call (g':=g') (t':=t') (d':=d') u hok hg hch
end
noncomputable abbrev XK := Value -> Option Addr -> Hp -> Prop
noncomputable abbrev St := List (Option V)
noncomputable abbrev VK := V -> Hp -> Prop
noncomputable abbrev TE := St -> Hp -> VK -> Prop
noncomputable abbrev TT := St -> Hp -> (Bool -> Hp -> Prop) -> Prop
noncomputable abbrev TA := St -> Hp -> (List V -> Hp -> Prop) -> Prop
structure Ends where
 nx : St -> Hp -> Prop
 rt : VK
 bk : St -> Hp -> Prop := fun _ _ => False
 ct : St -> Hp -> Prop := fun _ _ => False
noncomputable abbrev TS := Ends -> St -> Hp -> Prop
noncomputable def EP (X : Cx) (pins : List (Addr × Obj)) (σ : St) (Q : VK) (u : Value) (s' : Shared) : Prop := ∃ v H', Inv X pins σ H' s' /\ RelV v u /\ Q v H'
noncomputable def TP (X : Cx) (pins : List (Addr × Obj)) (σ : St) (Q : Bool -> Hp -> Prop) (b : Bool) (s' : Shared) : Prop := ∃ H', Inv X pins σ H' s' /\ Q b H'
noncomputable def AP (X : Cx) (pins : List (Addr × Obj)) (σ : St) (Q : List V -> Hp -> Prop) (us : List Value) (s' : Shared) : Prop := ∃ vs H', Inv X pins σ H' s' /\ Vals vs us /\ Q vs H'
noncomputable def SP (X : Cx) (pins : List (Addr × Obj)) (D : Ends) (f : Flow) (s' : Shared) : Prop :=
 match f with
 | .next => ∃ σ' H', Inv X pins σ' H' s' /\ D.nx σ' H'
 | .brk => ∃ σ' H', Inv X pins σ' H' s' /\ D.bk σ' H'
 | .cont => ∃ σ' H', Inv X pins σ' H' s' /\ D.ct σ' H'
 | .ret u => ∃ v σ' H', Inv X pins σ' H' s' /\ RelV v u /\ D.rt v H'
noncomputable def PE (X : Cx) (e : Expr) (t : TE) : Prop :=
 ∀ (pins : List (Addr × Obj)) (s : Shared) (σ : St) (H : Hp) (Q : VK), Inv X pins σ H s -> t σ H Q -> wpAny (model X.prog X.w) X.A (eval e X.env) (EP X pins σ Q) X.xe s
noncomputable def PT (X : Cx) (e : Expr) (t : TT) : Prop :=
 ∀ (pins : List (Addr × Obj)) (s : Shared) (σ : St) (H : Hp) (Q : Bool -> Hp -> Prop), Inv X pins σ H s -> t σ H Q -> wpAny (model X.prog X.w) X.A (isTrue e X.env (eval e X.env)) (TP X pins σ Q) X.xe s
noncomputable def PW (X : Cx) (e : Expr) (t : TT) : Prop :=
 ∀ (whole : Sem Value) (pins : List (Addr × Obj)) (s : Shared) (σ : St) (H : Hp) (Q : Bool -> Hp -> Prop), Inv X pins σ H s -> t σ H Q -> wpAny (model X.prog X.w) X.A (isTrue e X.env whole) (TP X pins σ Q) X.xe s
theorem PW.pt {X : Cx} {e : Expr} {t : TT} (h : PW X e t) : PT X e t := h _
noncomputable def PA (X : Cx) (es : List Expr) (t : TA) : Prop :=
 ∀ (pos : Pos) (pins : List (Addr × Obj)) (s : Shared) (σ : St) (H : Hp) (Q : List V -> Hp -> Prop), Inv X pins σ H s -> t σ H Q -> wpAny (model X.prog X.w) X.A (spliced (backTo pos (starEach es X.env))) (AP X pins σ Q) X.xe s
noncomputable def PS (X : Cx) (st : Stmt) (t : TS) : Prop :=
 ∀ (pins : List (Addr × Obj)) (s : Shared) (σ : St) (H : Hp) (D : Ends), Inv X pins σ H s -> t D σ H -> wpAny (model X.prog X.w) X.A (exec st X.env) (SP X pins D) X.xe s
noncomputable def PSs (X : Cx) (st : List Stmt) (t : TS) : Prop :=
 ∀ (pins : List (Addr × Obj)) (s : Shared) (σ : St) (H : Hp) (D : Ends), Inv X pins σ H s -> t D σ H -> wpAny (model X.prog X.w) X.A (execs st X.env) (SP X pins D) X.xe s
theorem thn {α : Type} {t : Sem α} {Q Q' : α -> Shared -> Prop} {M : Model} {A : Around} {E : Value -> Shared -> Prop} {s : Shared} (h : wpAny M A t Q E s) (hQ : ∀ a s, Q a s -> Q' a s) : wpAny M A t Q' E s := wpAny_mono h hQ fun _ _ x => x
end L2
namespace L2
open PySem PySem.Spec PyProof.Rows
section
variable {X : Cx}
noncomputable def tVar (i : Nat) : TE := fun σ H Q => ∃ v, σ[i]? = some (some v) /\ Q v H
noncomputable def tC (v : V) : TE := fun _ H Q => Q v H
theorem zx2 {i : Nat} {x : Str} {pos : Pos} (hN : X.N[i]? = some x) (hv : Vis X.env.scope x) (hd : (x == ("__debug__" : Str)) = false := by decide) (hcd : (x == ("__classdict__" : Str)) = false := by decide) : PE X (.Name x pos) (tVar i) := by
 intro pins s σ H Q I h
 obtain ⟨v, e, h⟩ := h
 obtain ⟨m, hn, hl⟩ := I.loc
 obtain ⟨u, r, l⟩ := hl i x v hN e hv
 have fin : EP X pins σ Q u s := ⟨v, H, I, r, h⟩
 rcases l with ⟨hk, hm⟩ | ⟨hk, c, hc, hcell⟩
 ·exact wpAny_Name (wpAny_loadName_local I.ok.kind hk hn hm fin) hd
 ·rcases hk with hk | hk
  ·exact wpAny_Name (wpAny_loadName_cell I.ok.kind hk hc hcell fin) hd
  ·exact wpAny_Name (wpAny_loadName_free I.ok.kind hk hc hcell fin hcd) hd
theorem zag {i j pos} : PE X (.Constant (.int i) j pos) (tC (.int i)) := fun _ _ _ H _ I h => wpAny_Constant_int ⟨.int i, H, I.tok _, ⟨_, rfl⟩, h⟩
theorem ztj {b j pos} : PE X (.Constant (.bool b) j pos) (tC (.bl b)) := fun _ _ _ H _ I h => Constant_bool ⟨.bl b, H, I, rfl, h⟩
theorem zrn {j pos} : PE X (.Constant .none j pos) (tC .non) := fun _ _ _ H _ I h => Constant_none ⟨.non, H, I, rfl, h⟩
theorem zap {x j pos} : PE X (.Constant (.str x) j pos) (tC (.str x)) := fun _ _ _ H _ I h => Calls.Constant_str ⟨.str x, H, I.tok _, ⟨_, rfl⟩, h⟩
noncomputable def Gl (X : Cx) (x : Str) : Prop := X.env.kindOf x = some .globalImplicit
theorem zdl {E : Value -> Shared -> Prop} {pins : List (Addr × Obj)} {s : Shared} {σ : St} {H : Hp} {x : Str} {u : Value} {pos : Pos} {Q : Value -> Shared -> Prop} (I : Inv X pins σ H s) (hg : Gl X x) (hm : X.mg x = some u) (h : Q u s)
  (hd : (x == ("__debug__" : Str)) = false := by decide) : wpAny (model X.prog X.w) X.A (eval (.Name x pos) X.env) Q E s :=
 Calls.Name_function_global I.ok.kind hg (Calls.loadGlobal_global (by rw [I.ok.glob]; exact I.mod.glob.keeps I.bk) hm h) hd
theorem zkc {E : Value -> Shared -> Prop} {pins : List (Addr × Obj)} {s : Shared} {σ : St} {H : Hp} {x : Str} {u : Value} {pos : Pos} {Q : Value -> Shared -> Prop} (I : Inv X pins σ H s) (hg : Gl X x) (hm : X.mg x = none) (hv : bootBuiltins x = some u) (h : Q u s)
  (hn : x ≠ "__name__" := by decide) (hd : (x == ("__debug__" : Str)) = false := by decide) : wpAny (model X.prog X.w) X.A (eval (.Name x pos) X.env) Q E s := by
 obtain ⟨mb, h1, h2⟩ := I.mod.blt
 exact Calls.Name_function_global I.ok.kind hg (Calls.loadGlobal_builtin (by rw [I.ok.glob]; exact I.mod.glob.keeps I.bk) hm (by rw [I.ok.blt]; exact h1.keeps I.bk) ((h2 x hn).trans hv) h) hd
theorem zcl {x : Str} {v : V} {u : Value} {pos : Pos} (hg : Gl X x) (hm : X.mg x = some u) (r : RelV v u) (hd : (x == ("__debug__" : Str)) = false := by decide) : PE X (.Name x pos) (tC v) :=
 fun _ _ _ H _ I h => zdl I hg hm ⟨v, H, I, r, h⟩ hd
theorem zk4 {x : Str} {v : V} {u : Value} {pos : Pos} (hg : Gl X x) (hm : X.mg x = none) (hv : bootBuiltins x = some u) (r : RelV v u) (hn : x ≠ "__name__" := by decide) (hd : (x == ("__debug__" : Str)) = false := by decide) : PE X (.Name x pos) (tC v) :=
 fun _ _ _ H _ I h => zkc I hg hm hv ⟨v, H, I, r, h⟩ hn hd
variable {a b : Expr} {ta tb : TE} {pos : Pos}
noncomputable def tB (t : TE) : TT := fun σ H Q => t σ H fun x H1 => ∃ c, x = .bl c /\ Q c H1
theorem zd4 {e : Expr} {t : TE} (h : PE X e t) (he : ∀ whole, isTrue e X.env whole = (do let v <- whole; standAt e.pos; holding [v] (truthy v)) := by intro _; rfl) : PT X e (tB t) := by
 intro pins s σ H Q I hw
 refine isTrue_plain (thn (h pins s σ H _ I hw) fun v s1 hz9 => ?_) (he _)
 obtain ⟨x, H1, I1, r1, q1⟩ := hz9
 obtain ⟨d, rfl, q⟩ := q1
 cases r1
 exact wpAny_truthy_bool ⟨H1, I1, q⟩
variable {tA tB' : TT} {rest : List Expr}
noncomputable def tAnd (t u : TT) : TT := fun σ H Q => t σ H fun c H1 => if c = true then u σ H1 Q else Q false H1
noncomputable def tOr (t u : TT) : TT := fun σ H Q => t σ H fun c H1 => if c = true then Q true H1 else u σ H1 Q
noncomputable def tNot (t : TT) : TT := fun σ H Q => t σ H fun c H1 => Q (!c) H1
theorem zl2 (ha : PT X a tA) : PW X (.BoolOp .And [a] pos) tA := by
 intro wh pins s σ H Q I h
 refine isTrue_and (thn (ha pins s σ H Q I h) fun c s1 e => ?_)
 cases c with
 | true => exact isTrue_and_nil e
 | false => exact e
theorem zpl (ha : PT X a tA) : PW X (.BoolOp .Or [a] pos) tA := by
 intro wh pins s σ H Q I h
 refine isTrue_or (thn (ha pins s σ H Q I h) fun c s1 e => ?_)
 cases c with
 | false => exact isTrue_or_nil e
 | true => exact e
theorem zmr (ha : PT X a tA) (hb : PW X (.BoolOp .And (b :: rest) pos) tB') : PW X (.BoolOp .And (a :: b :: rest) pos) (tAnd tA tB') := by
 intro wh pins s σ H Q I h
 refine isTrue_and (thn (ha pins s σ H _ I h) fun c s1 hz9 => ?_)
 obtain ⟨H1, I1, q1⟩ := hz9
 cases c with
 | true => exact hb wh pins s1 σ H1 Q I1 q1
 | false => exact ⟨H1, I1, q1⟩
theorem zs6 (ha : PT X a tA) (hb : PW X (.BoolOp .Or (b :: rest) pos) tB') : PW X (.BoolOp .Or (a :: b :: rest) pos) (tOr tA tB') := by
 intro wh pins s σ H Q I h
 refine isTrue_or (thn (ha pins s σ H _ I h) fun c s1 hz9 => ?_)
 obtain ⟨H1, I1, q1⟩ := hz9
 cases c with
 | true => exact ⟨H1, I1, q1⟩
 | false => exact hb wh pins s1 σ H1 Q I1 q1
theorem zht (ha : PT X a tA) : PT X (.UnaryOp .Not a pos) (tNot tA) := by
 intro pins s σ H Q I h
 exact isTrue_not (ha pins s σ H (fun c H1 => Q (!c) H1) I h)
noncomputable def zwk (ta tb : TE) : TE := fun σ H Q => ta σ H fun x H1 => ∃ c, x = .bl c /\ if c = true then tb σ H1 Q else Q (.bl false) H1
noncomputable def tOrV (ta tb : TE) : TE := fun σ H Q => ta σ H fun x H1 => ∃ c, x = .bl c /\ if c = true then Q (.bl true) H1 else tb σ H1 Q
noncomputable def zx3 (ta : TE) : TE := fun σ H Q => ta σ H fun x H1 => ∃ c, x = .bl c /\ Q (.bl (!c)) H1
theorem zhw {op} {t : TE} (h : PE X a t) : PE X (.BoolOp op [a] pos) t := fun pins s σ H Q I hw => BoolOp_one (h pins s σ H Q I hw)
theorem zji (ha : PE X a ta) (hb : PE X (.BoolOp .And (b :: rest) pos) tb) : PE X (.BoolOp .And (a :: b :: rest) pos) (zwk ta tb) := by
 intro pins s σ H Q I h
 refine BoolOp_and (thn (ha pins s σ H _ I h) fun v s1 hz9 => ?_)
 obtain ⟨x, H1, I1, r1, q1⟩ := hz9
 obtain ⟨c, rfl, q1⟩ := q1
 cases r1
 refine wpAny_truthy_bool ?_
 cases c with
 | true => exact hb pins s1 σ H1 Q I1 q1
 | false => exact ⟨.bl false, H1, I1, rfl, q1⟩
theorem zym (ha : PE X a ta) (hb : PE X (.BoolOp .Or (b :: rest) pos) tb) : PE X (.BoolOp .Or (a :: b :: rest) pos) (tOrV ta tb) := by
 intro pins s σ H Q I h
 refine BoolOp_or (thn (ha pins s σ H _ I h) fun v s1 hz9 => ?_)
 obtain ⟨x, H1, I1, r1, q1⟩ := hz9
 obtain ⟨c, rfl, q1⟩ := q1
 cases r1
 refine wpAny_truthy_bool ?_
 cases c with
 | false => exact hb pins s1 σ H1 Q I1 q1
 | true => exact ⟨.bl true, H1, I1, rfl, q1⟩
theorem zwn (ha : PE X a ta) : PE X (.UnaryOp .Not a pos) (zx3 ta) := by
 intro pins s σ H Q I h
 refine UnaryOp_ (thn (ha pins s σ H _ I h) fun v s1 hz9 => ?_)
 obtain ⟨x, H1, I1, r1, q1⟩ := hz9
 obtain ⟨c, rfl, q1⟩ := q1
 cases r1
 exact not_of (wpAny_truthy_bool ⟨.bl (!c), H1, I1, rfl, q1⟩)
end
end L2
namespace L2
open PySem PySem.Spec PyProof.Rows
noncomputable def SqL (K : PySem.W.Frag) (H : Hp) (a : Addr) (xs : List V) : Prop :=
 Rd H a (.lst xs) \/
  ∃ (o : Obj) (its : Array Value) (n : Nat), K.lookup a = some o /\ o.cls = .type "list" /\ o.dict = none /\ o.data = .seq its n /\ its.size <= sizeLine /\ Vals xs its.toList
noncomputable def SqT (K : PySem.W.Frag) (H : Hp) (a : Addr) (xs : List V) : Prop :=
 Rd H a (.tup xs) \/
  ∃ (o : Obj) (its : Array Value) (n : Nat), K.lookup a = some o /\ o.cls = .type "tuple" /\ o.data = .seq its n /\ its.size <= sizeLine /\ Vals xs its.toList
noncomputable def absV : Value -> Option V
 | .none => some .non
 | .bool b => some (.bl b)
 | .int i _ => some (.int i)
 | .str x _ => some (.str x)
 | .bytes b _ => some (.byt b)
 | .float b _ => some (.flt b)
 | .ref a => some (.ref a)
 | .type n => some (.ty n)
 | _ => none
theorem RelV.abs {x : V} {u : Value} (r : RelV x u) : absV u = some x := by
 cases x with
 | non => cases r; rfl
 | bl _ => cases r; rfl
 | int _ => obtain ⟨t, rfl⟩ := r; rfl
 | str _ => obtain ⟨t, rfl⟩ := r; rfl
 | byt _ => obtain ⟨t, rfl⟩ := r; rfl
 | flt _ => obtain ⟨t, rfl⟩ := r; rfl
 | ref _ => cases r; rfl
 | ty _ => cases r; rfl
theorem RelV.inj {x y : V} {u : Value} (r : RelV x u) (q : RelV y u) : x = y := Option.some.inj (r.abs.symm.trans q.abs)
theorem Vals.inj : ∀ {xs ys : List V} {us : List Value}, Vals xs us -> Vals ys us -> xs = ys
 | _, _, _, .nil, .nil => rfl
 | _, _, _, .cons r t, .cons r' t' => by rw [r.inj r', Vals.inj t t']
section
variable {X : Cx} {pins : List (Addr × Obj)} {σ : St} {H : Hp} {s : Shared} {a : Addr} {xs ys : List V}
theorem SqL.of {K : PySem.W.Frag} (h : H a = some (.lst xs)) : SqL K H a xs := .inl (.inl h)
theorem SqT.of {K : PySem.W.Frag} (h : H a = some (.tup xs)) : SqT K H a xs := .inl (.inl h)
theorem Inv.list (I : Inv X pins σ H s) (h : SqL X.K H a xs) : ∃ its : List Value, Vals xs its /\ PlainL s.heap a its.toArray /\ xs.length <= sizeLine := by
 rcases h with h | ⟨o, its, n, hk, hc, hd, hs, hz, r⟩
 ·obtain ⟨z, its, n, r, e⟩ := h.ok I.hok
  exact ⟨its, r, ⟨_, n, e, rfl, rfl, rfl⟩, z⟩
 ·refine ⟨its.toList, r, ⟨o, n, I.kIn a o hk, hc, hd, by simpa using hs⟩, ?_⟩
  have e := r.length
  simp only [Array.length_toList] at e
  omega
theorem Inv.tuple (I : Inv X pins σ H s) (h : SqT X.K H a xs) : ∃ its : List Value, Vals xs its /\ IsTup s.heap a its.toArray /\ xs.length <= sizeLine := by
 rcases h with h | ⟨o, its, n, hk, hc, hs, hz, r⟩
 ·obtain ⟨z, its, r, p⟩ := h.ok I.hok
  exact ⟨its, r, p, z⟩
 ·refine ⟨its.toList, r, ⟨o, I.kIn a o hk, hc, n, by simpa using hs⟩, ?_⟩
  have e := r.length
  simp only [Array.length_toList] at e
  omega
theorem Inv.list_inj (I : Inv X pins σ H s) (h : SqL X.K H a xs) (h' : SqL X.K H a ys) : xs = ys := by
 obtain ⟨its, r, ⟨o, n, e, _, _, d⟩, _⟩ := I.list h
 obtain ⟨its', r', ⟨o', n', e', _, _, d'⟩, _⟩ := I.list h'
 rw [e] at e'; cases e'
 rw [d] at d'
 injection d' with d1 _
 have : its = its' := by simpa using congrArg Array.toList d1
 subst this
 exact r.inj r'
end
noncomputable abbrev Cx.wish (X : Cx) (E : Value -> Shared -> Prop) : Cx := { X with xe := E }
noncomputable abbrev Cx.nox (X : Cx) : Cx := X.wish fun _ _ => False
theorem Cx.Ok.wish {X : Cx} (ok : X.Ok) (E : Value -> Shared -> Prop) : (X.wish E).Ok :=
 ⟨ok.mod, ok.kind, ok.glob, ok.blt, ok.above, ok.inj, ok.has, ok.cab, ok.hd, ok.frames, ok.stk, ok.exf, ok.bs, ok.bsz, ok.noex, ok.exfs, ok.funs, ok.frf⟩
theorem Cx.Ok.unwish {X : Cx} {E : Value -> Shared -> Prop} (ok : (X.wish E).Ok) : X.Ok :=
 ⟨ok.mod, ok.kind, ok.glob, ok.blt, ok.above, ok.inj, ok.has, ok.cab, ok.hd, ok.frames, ok.stk, ok.exf, ok.bs, ok.bsz, ok.noex, ok.exfs, ok.funs, ok.frf⟩
section
variable {X : Cx} {pins : List (Addr × Obj)} {σ : St} {H : Hp} {s : Shared} {E : Value -> Shared -> Prop}
theorem Inv.wish (I : Inv X pins σ H s) (E : Value -> Shared -> Prop) : Inv (X.wish E) pins σ H s := ⟨I.ok.wish E, I.os, I.bare, I.base, I.loc, I.cell, I.free, I.freeC, I.pin, I.hok, I.len⟩
theorem Inv.unwish (I : Inv (X.wish E) pins σ H s) : Inv X pins σ H s := ⟨I.ok.unwish, I.os, I.bare, I.base, I.loc, I.cell, I.free, I.freeC, I.pin, I.hok, I.len⟩
theorem SP.unwish {D : Ends} {f : Flow} {s' : Shared} (h : SP (X.wish E) pins D f s') : SP X pins D f s' := by
 cases f with
 | next => obtain ⟨σ', H', I, q⟩ := h; exact ⟨σ', H', I.unwish, q⟩
 | brk => obtain ⟨σ', H', I, q⟩ := h; exact ⟨σ', H', I.unwish, q⟩
 | cont => obtain ⟨σ', H', I, q⟩ := h; exact ⟨σ', H', I.unwish, q⟩
 | ret u => obtain ⟨v, σ', H', I, r, q⟩ := h; exact ⟨v, σ', H', I.unwish, r, q⟩
theorem PE.nox {e : Expr} {t : TE} (h : PE X.nox e t) : PE X e t := fun pins s σ H Q I hw =>
 wpAny_mono (h pins s σ H Q (I.wish _) hw) (fun _ _ ⟨v, H', I', r, q⟩ => ⟨v, H', I'.unwish, r, q⟩) fun _ _ z => False.elim z
theorem PT.nox {e : Expr} {t : TT} (h : PT X.nox e t) : PT X e t := fun pins s σ H Q I hw =>
 wpAny_mono (h pins s σ H Q (I.wish _) hw) (fun _ _ ⟨H', I', q⟩ => ⟨H', I'.unwish, q⟩) fun _ _ z => False.elim z
theorem PSs.nox {st : List Stmt} {t : TS} (h : PSs X.nox st t) : PSs X st t := fun pins s σ H D I hw =>
 wpAny_mono (h pins s σ H D (I.wish _) hw) (fun _ _ q => q.unwish) fun _ _ z => False.elim z
end
section
variable {X : Cx} {st : Stmt} {rest : List Stmt} {t u : TS} {e : Expr} {te : TE} {pos : Pos}
noncomputable def zx9 : TS := fun D σ H => D.nx σ H
noncomputable def tSeq (t u : TS) : TS := fun D σ H => t { D with nx := u D } σ H
theorem zcg : PSs X [] zx9 := fun _ _ σ H _ I h => wpAny_execs_nil ⟨σ, H, I, h⟩
theorem zah (h1 : PS X st t) (h2 : PSs X rest u) : PSs X (st :: rest) (tSeq t u) := by
 intro pins s σ H D I h
 refine wpAny_execs_cons (thn (h1 pins s σ H { D with nx := u D } I h) fun f s1 q => ?_)
 cases f with
 | next =>
  obtain ⟨σ', H', I', q⟩ := q
  exact h2 pins s1 σ' H' D I' q
 | ret v => exact q
 | brk => exact q
 | cont => exact q
theorem zaq (h1 : PS X st t) : PSs X [st] t := by
 intro pins s σ H D I h
 refine wpAny_execs_cons (thn (h1 pins s σ H D I h) fun f s1 q => ?_)
 cases f with
 | next => exact wpAny_execs_nil q
 | ret v => exact q
 | brk => exact q
 | cont => exact q
theorem Inv.quiet {pins : List (Addr × Obj)} {σ : St} {H : Hp} {s : Shared} (I : Inv X pins σ H s) : interactive X.env = false := by simp [interactive, I.ok.kind]
noncomputable def zsb (te : TE) : TS := fun D σ H => te σ H fun _ H1 => D.nx σ H1
theorem zeb (he : PE X e te) (hs : swapsWith e none pos.line X.env = pure false := by rfl) : PS X (.Expr e pos) (zsb te) := by
 intro pins s σ H D I h
 exact wpAny_Expr_any (thn (he pins s σ H _ I h) fun v s1 ⟨x, H1, I1, r1, q1⟩ => ⟨σ, H1, I1, q1⟩) I.quiet hs
noncomputable def tRet (te : TE) : TS := fun D σ H => te σ H D.rt
theorem zbj (he : PE X e te) : PS X (.Return (some e) pos) (tRet te) := by
 intro pins s σ H D I h
 exact wpAny_Return_some (thn (he pins s σ H _ I h) fun v s1 ⟨x, H1, I1, r1, q1⟩ => ⟨x, σ, H1, I1, r1, q1⟩)
noncomputable def tIfS (c : TT) (t u : TS) : TS := fun D σ H => c σ H fun b H1 => if b = true then t D σ H1 else u D σ H1
theorem zfk {c : Expr} {a b : List Stmt} {tc : TT} (hc : PT X c tc) (ha : PSs X a t) (hb : PSs X b u) : PS X (.If c a b pos) (tIfS tc t u) := by
 intro pins s σ H D I h
 refine wpAny_If (thn (hc pins s σ H _ I h) fun d s1 hz9 => ?_)
 obtain ⟨H1, I1, q1⟩ := hz9
 cases d with
 | true => exact ha pins s1 σ H1 D I1 q1
 | false => exact hb pins s1 σ H1 D I1 q1
end
noncomputable abbrev TG := V -> St -> Hp -> (St -> Hp -> Prop) -> Prop
noncomputable abbrev TGs := List V -> St -> Hp -> (St -> Hp -> Prop) -> Prop
noncomputable def PG (X : Cx) (target : Expr) (t : TG) : Prop :=
 ∀ (pins : List (Addr × Obj)) (s : Shared) (σ : St) (H : Hp) (v : V) (u : Value) (Q : St -> Hp -> Prop), Inv X pins σ H s -> RelV v u -> t v σ H Q ->
  wpAny (model X.prog X.w) X.A (assign target X.env u) (fun _ s' => ∃ σ' H', Inv X pins σ' H' s' /\ Q σ' H') X.xe s
noncomputable def PGs (X : Cx) (ts : List Expr) (t : TGs) : Prop :=
 ∀ (pins : List (Addr × Obj)) (s : Shared) (σ : St) (H : Hp) (vs : List V) (us : List Value) (Q : St -> Hp -> Prop), Inv X pins σ H s -> Vals vs us -> t vs σ H Q ->
  wpAny (model X.prog X.w) X.A (assignInOrder ((assignEach ts X.env).map (·.2)) us) (fun _ s' => ∃ σ' H', Inv X pins σ' H' s' /\ Q σ' H') X.xe s
section
variable {X : Cx} {pos : Pos}
noncomputable def zjs (i : Nat) : TG := fun v σ H Q => Q (σ.set i (some v)) H
theorem zcw {i : Nat} {x : Str} (hN : X.N.Nodup) (hi : X.N[i]? = some x) (hx : Loc X.env.scope x) (hf : X.fn x = true \/ X.env.scope.names.lookup x = some .local := by first | exact .inl rfl | exact .inr rfl | assumption) : PG X (.Name x pos) (zjs i) := by
 intro pins s σ H v u Q I r h
 exact wpAny_assign_Name (zft I hN hi hx r (fun s' I' => ⟨_, H, I', h⟩) hf)
noncomputable def gNil : TGs := fun vs σ H Q => vs = [] /\ Q σ H
noncomputable def zv6 (t : TG) (u : TGs) : TGs := fun vs σ H Q => ∃ v r, vs = v :: r /\ t v σ H fun σ' H' => u r σ' H' Q
theorem zlw : PGs X [] gNil := by
 intro pins s σ H vs us Q I r h
 obtain ⟨e, h⟩ := h
 subst e
 cases r
 exact assignInOrder_nil ⟨σ, H, I, h⟩
theorem zdy {e : Expr} {es : List Expr} {t : TG} {u : TGs} (h1 : PG X e t) (h2 : PGs X es u)
  (hs : (assignEach (e :: es) X.env).map (·.2) = assign e X.env :: (assignEach es X.env).map (·.2) := by rfl) : PGs X (e :: es) (zv6 t u) := by
 intro pins s σ H vs us Q I r h
 obtain ⟨v, vr, e1, h⟩ := h
 subst e1
 cases r with
 | cons r rr =>
  rw [hs]
  refine assignInOrder_cons (thn (h1 pins s σ H _ _ _ I r h) fun _ s1 hz9 => ?_)
  obtain ⟨σ1, H1, I1, q1⟩ := hz9
  exact h2 pins s1 σ1 H1 _ _ Q I1 rr q1
noncomputable def gTup (K : PySem.W.Frag) (n : Nat) (t : TGs) : TG := fun v σ H Q => ∃ a xs, v = .ref a /\ SqT K H a xs /\ xs.length = n /\ t xs σ H Q
theorem zqq {es : List Expr} {k : Nat} {t : TGs} {n : Nat} (hc : X.calm = true) (h : PGs X es t)
  (hn : (assignEach es X.env).length = n := by rfl) (hst : (assignEach es X.env).findIdx? (·.1) = none := by rfl) : PG X (.Tuple es k pos) (gTup X.K n t) := by
 intro pins s σ H v u Q I r hw
 obtain ⟨a, xs, e1, hq, hl, hw⟩ := hw
 subst e1
 cases r
 obtain ⟨its, rv, ht, hz⟩ := I.tuple hq
 refine assign_Tuple_tuple (I.ok.hd hc) ht (by simp [hn, <- hl, rv.length]) hst fun h' hx => ?_
 have I1 : Inv X pins σ H { s with heap := h' } := I.kept (t':=s.toks) fun b o e => hx b o (Nat.ne_of_lt (Heap.lt_size e)) e
 exact h pins _ σ H xs _ Q I1 (by simpa using rv) hw
noncomputable def tAsg (te : TE) (g : TG) : TS := fun D σ H => te σ H fun x H1 => g x σ H1 D.nx
theorem zw7 {tg e : Expr} {te : TE} {g : TG} (he : PE X e te) (hg : PG X tg g) (hs : swapsWithSole [tg] e pos.line X.env = pure false := by rfl) (hw : swappedStores [tg] e X.env = pure none := by rfl)
  (h1 : (assignEach [tg] X.env).map (·.2) = [assign tg X.env] := by rfl) : PS X (.Assign [tg] e pos) (tAsg te g) := by
 intro pins s σ H D I h
 refine wpAny_Assign_stores (thn (he pins s σ H _ I h) fun v s1 hz9 => ?_) hs hw
 obtain ⟨x, H1, I1, r1, q1⟩ := hz9
 rw [h1]
 exact thn (hg pins s1 σ H1 x v _ I1 r1 q1) fun _ s2 q => q
theorem zbq {i : Nat} {x : Str} {e : Expr} {te : TE} {pos' : Pos} (hN : X.N.Nodup) (hi : X.N[i]? = some x) (hx : Loc X.env.scope x) (he : PE X e te) (hs : swapsWith e (some (.Name x pos')) pos.line X.env = pure false := by rfl) (hf : X.fn x = true \/ X.env.scope.names.lookup x = some .local := by first | exact .inl rfl | exact .inr rfl | assumption) :
  PS X (.Assign [.Name x pos'] e pos) (tAsg te (zjs i)) := by
 intro pins s σ H D I h
 refine wpAny_Assign_Name (thn (he pins s σ H _ I h) fun v s1 hz9 => ?_) hs
 obtain ⟨y, H1, I1, r1, q1⟩ := hz9
 exact zft I1 hN hi hx r1 (fun s2 I2 => ⟨_, H1, I2, q1⟩) hf
end
structure It where
 go : Nat -> Hp -> Prop
 yld : Nat -> Hp -> V -> Hp -> Prop
 stop : Nat -> Hp -> Prop
noncomputable def FpOk (X : Cx) (pins : List (Addr × Obj)) (H : Hp) (b : Addr) : Prop :=
 H b = none /\ b ≠ X.env.locals /\ b ∉ X.fs /\ (b ∈ X.ex \/ X.s₀.heap.objs.size <= b) /\ (∀ x c, X.env.cells.lookup x = some c -> c ≠ b) /\ ∀ p ∈ X.pn ++ pins, p.1 ≠ b
theorem Inv.fpOk {X : Cx} {pins : List (Addr × Obj)} {σ : St} {H H' : Hp} {s : Shared} {b : Addr} (I : Inv X pins σ H s) (hb : s.heap.objs.size <= b) (hn : H' b = none) : FpOk X pins H' b := by
 refine ⟨hn, Nat.ne_of_gt (Nat.lt_of_lt_of_le I.lt hb), I.nofs hb, .inr (Nat.le_trans I.sz hb), fun x c e z => ?_, fun p hp z => ?_⟩
 ·obtain ⟨v, q⟩ := I.cell x c e
  exact absurd (Nat.lt_of_lt_of_le q.lt (by rw [z]; exact hb)) (Nat.lt_irrefl _)
 ·exact absurd (Nat.lt_of_lt_of_le (Heap.lt_size (I.pin p hp).1) (by rw [z]; exact hb)) (Nat.lt_irrefl _)
structure Turn (P : Program) (w : World) (K : PySem.W.Frag) (tg : Expr) (J : It) (fp : List Addr) (it : Addr) (tn : Nat -> Heap -> Prop) : Prop where
 mem : it ∈ fp
 obj : ∀ i h, tn i h -> ∀ b ∈ fp, ∃ o, h.get? b = some o /\ ∀ v, o.data ≠ .cell v
 keep : ∀ i h h', tn i h -> (∀ b ∈ fp, ∀ o, h.get? b = some o -> h'.get? b = some o) -> tn i h'
 item : ∀ (X : Cx), X.prog = P -> X.w = w -> X.K = K -> X.calm = true -> ∀ (i : Nat) (pins : List (Addr × Obj)) (s : Shared) (σ : St) (H : Hp) (E : Value -> Shared -> Prop), Inv X pins σ H s -> (∀ b ∈ fp, FpOk X pins H b) -> tn i s.heap -> J.go i H ->
  wpAny (model P w) X.A (pyNext (.ref it)) (fun r s1 => ∃ u, r = some u /\
   wpAny (model P w) X.A (letOwnedTupleGo tg (.ref it) u) (fun _ s2 => ∃ x H', Inv X pins σ H' s2 /\ RelV x u /\ J.yld i H x H' /\ tn (i + 1) s2.heap /\ ∀ b ∈ fp, H' b = none) E s1) E s
 done : ∀ (X : Cx), X.prog = P -> X.w = w -> X.K = K -> X.calm = true -> ∀ (i : Nat) (pins : List (Addr × Obj)) (s : Shared) (σ : St) (H : Hp) (E : Value -> Shared -> Prop), Inv X pins σ H s -> (∀ b ∈ fp, FpOk X pins H b) -> tn i s.heap -> J.stop i H ->
  wpAny (model P w) X.A (pyNext (.ref it)) (fun r s1 => r = none /\ Inv X pins σ H s1) E s
 self : ∀ (A : Around) (i : Nat) (s : Shared) (Q : Value -> Shared -> Prop) (E : Value -> Shared -> Prop), tn i s.heap -> Q (.ref it) s -> wpAny (model P w) A (pyIter (.ref it)) Q E s
noncomputable abbrev TI := St -> Hp -> (It -> Hp -> Prop) -> Prop
noncomputable def PIE (X : Cx) (pins : List (Addr × Obj)) (σ : St) (tg : Expr) (R : It -> Hp -> Prop) (itv : Value) (s2 : Shared) : Prop :=
 ∃ (it : Addr) (fp : List Addr) (tn : Nat -> Heap -> Prop) (J : It) (H' : Hp), itv = .ref it /\ Inv X pins σ H' s2 /\ Turn X.prog X.w X.K tg J fp it tn /\ tn 0 s2.heap /\ (∀ b ∈ fp, FpOk X pins H' b) /\ R J H'
noncomputable def PI (X : Cx) (tg iter : Expr) (wi : TI) : Prop :=
 ∀ (pins : List (Addr × Obj)) (s : Shared) (σ : St) (H : Hp) (R : It -> Hp -> Prop), Inv X pins σ H s -> wi σ H R ->
  wpAny (model X.prog X.w) X.A (eval iter X.env) (fun v s1 => wpAny (model X.prog X.w) X.A (pyIter v) (PIE X pins σ tg R) X.xe s1) X.xe s
theorem zv3 {M : Model} {A : Around} {E : Value -> Shared -> Prop} {s : Shared} {tg : Expr} {it : Addr} {u : Value} {o : Obj} {n : String} {vs : Array Value} {Q : Unit -> Shared -> Prop} (ho : s.heap.get? it = some o) (hc : o.cls = .type n) (hd : o.data = .fields vs)
    (hn : ["enumerate", "zip", "dict_itemiterator", "dict_reverseitemiterator", "odict_iterator", "itertools.zip_longest", "itertools.pairwise"].contains n = false) (hQ : Q () s) : wpAny M A (letOwnedTupleGo tg (.ref it) u) Q E s := by
  unfold letOwnedTupleGo
  cases tg <;> first
    | exact wpAny_pure hQ
    | (cases u <;> first
        | exact wpAny_pure hQ
        | (refine wpAny_bind (wpAny_load ho ?_)
           rw [hc, hd]
           show wpAny M A (if (["enumerate", "zip", "dict_itemiterator", "dict_reverseitemiterator", "odict_iterator", "itertools.zip_longest", "itertools.pairwise"].contains n && vs[0]? == some (rawInt _)) = true then _ else _) Q E s
           rw [if_neg (by intro h; rw [hn, Bool.false_and] at h; cases h)]
           exact wpAny_pure hQ))
noncomputable def Itl (K : PySem.W.Frag) (a : Addr) : It :=
 ⟨fun i H => ∃ xs x, SqL K H a xs /\ xs[i]? = some x, fun i H x H' => H' = H /\ ∀ xs, SqL K H a xs -> xs[i]? = some x, fun i H => ∃ xs, SqL K H a xs /\ xs.length <= i⟩
noncomputable def Itr (lo : Int) (n : Nat) : It := ⟨fun i _ => i < n, fun i H x H' => H' = H /\ x = .int (lo + i), fun i _ => n <= i⟩
theorem zrq {P : Program} {w : World} {K : PySem.W.Frag} {tg : Expr} (a it : Addr) : Turn P w K tg (Itl K a) [it] it (fun i h => h.IsListIter it a i) where
 mem := by simp
 obj := fun i h st b hb => by
  have e : b = it := by simpa using hb
  subst e
  obtain ⟨o, e, c, d⟩ := st
  exact ⟨o, e, fun v z => by rw [d] at z; cases z⟩
 keep := fun i h h' st k => st.at fun o e => k it (by simp) o e
 item := by
  intro X hP hw hK hc i pins s σ H E I hf st hg
  subst hP hw hK
  obtain ⟨xs, x, hq, hx⟩ := hg
  obtain ⟨its, rv, p, hz⟩ := I.list hq
  obtain ⟨u, hu, ru⟩ := rv.get hx
  obtain ⟨f0, f1, f2, f3, f4, f5⟩ := hf it (by simp)
  refine wpAny_pyNext_list_item st p.isList (x:=u) (by simpa using hu) fun h' st' sb => ?_
  have I1 : Inv X pins σ H { s with heap := h' } := I.turned (t':=s.toks) (fun b o hb e => (sb.2 b hb).trans e) f0 f1 f3 f4 f5
  obtain ⟨o, e, c, d⟩ := id st'
  exact ⟨u, rfl, zv3 (s:={ s with heap := h' }) e c d (by decide) ⟨x, H, I1, ru, ⟨rfl, fun ys hy => by rw [I.list_inj hy hq]; exact hx⟩, st', fun b hb => (hf b hb).1⟩⟩
 done := by
  intro X hP hw hK hc i pins s σ H E I hf st hg
  subst hP hw hK
  obtain ⟨xs, hq, hx⟩ := hg
  obtain ⟨its, rv, p, hz⟩ := I.list hq
  obtain ⟨f0, f1, f2, f3, f4, f5⟩ := hf it (by simp)
  have hl := rv.length
  exact wpAny_pyNext_list_end (I.ok.hd hc) st p.isList (by simp; omega) fun h' eb => ⟨rfl, I.turned (t':=s.toks) (fun b o hb e => eb b o hb e) f0 f1 f3 f4 f5⟩
 self := fun _ _ _ _ _ st h => wpAny_pyIter_listiter st h
theorem znw {P : Program} {w : World} {K : PySem.W.Frag} {tg : Expr} (it : Addr) (lo : Int) (n : Nat) : Turn P w K tg (Itr lo n) [it] it (fun i h => IsRangeIter h it (lo + (i : Nat) * 1) ((n : Int) - (i : Nat)) 1) where
 mem := by simp
 obj := fun i h st b hb => by
  have e : b = it := by simpa using hb
  subst e
  exact ⟨_, st, fun v z => by
   have z' : Data.fields _ = Data.cell v := z
   cases z'⟩
 keep := fun i h h' st k => k it (by simp) _ st
 item := by
  intro X hP hw hK hc i pins s σ H E I hf st hg
  subst hP hw hK
  obtain ⟨f0, f1, f2, f3, f4, f5⟩ := hf it (by simp)
  have W := Walks.range (prog:=X.prog) (w:=X.w) (I.ok.hd hc) it lo 1 n
  refine W.item i s _ _ hg st fun v h' tk hv st' kk => ?_
  obtain ⟨t, rfl⟩ := hv
  have I1 : Inv X pins σ H { s with heap := h', toks := tk } := I.turned (fun b o hb e => kk b o (by simpa using hb) e) f0 f1 f3 f4 f5
  refine ⟨_, rfl, zv3 (s:={ s with heap := h', toks := tk }) (n:="range_iterator") st' rfl rfl (by decide) ⟨.int (lo + i), H, I1, ⟨t, ?_⟩, ⟨rfl, rfl⟩, st', fun b hb => (hf b hb).1⟩⟩
  rw [Int.mul_one]
 done := by
  intro X hP hw hK hc i pins s σ H E I hf st hg
  subst hP hw hK
  obtain ⟨f0, f1, f2, f3, f4, f5⟩ := hf it (by simp)
  exact wpAny_pyNext_range_end (I.ok.hd hc) st (by have : n <= i := hg; omega) fun h' eb => ⟨rfl, I.turned (t':=s.toks) (fun b o hb e => eb b o hb e) f0 f1 f3 f4 f5⟩
 self := fun _ _ _ _ _ st h => wpAny_pyIter_rangeiter st h
end L2
namespace L2
open PySem PySem.Spec PyProof.Rows
section
variable {X : Cx} {tg : Expr}
noncomputable def znk (K : PySem.W.Frag) (tl : TE) : TI := fun σ H R => tl σ H fun x H1 => ∃ a, x = .ref a /\ (∃ xs, SqL K H1 a xs) /\ R (Itl K a) H1
theorem zpw {l : Expr} {tl : TE} (hl : PE X l tl) : PI X tg l (znk X.K tl) := by
 intro pins s σ H R I h
 refine thn (hl pins s σ H _ I h) fun v s1 hz9 => ?_
 obtain ⟨x, H1, I1, r1, q1⟩ := hz9
 obtain ⟨a, e, ⟨xs, hq⟩, q⟩ := q1
 subst e
 cases r1
 obtain ⟨its, rv, p, hz⟩ := I1.list hq
 refine wpAny_pyIter_list p.isList ?_
 refine ⟨s1.heap.objs.size, [s1.heap.objs.size], _, _, H1, rfl, I1.kept (t':=s1.toks) fun b o e => Heap.get?_push_of_some _ e, zrq a _, ⟨_, Heap.get?_push_size _ rfl, rfl, rfl⟩, fun b hb => ?_, q⟩
 have e : b = s1.heap.objs.size := by simpa using hb
 subst e
 exact I1.fpOk (Nat.le_refl _) (I1.hok.fresh (Nat.le_refl _))
theorem zte {pins : List (Addr × Obj)} {σ : St} {H : Hp} {s : Shared} {R : It -> Hp -> Prop} {E : Value -> Shared -> Prop} {lo hi : Int} {t u v : Tok} {tk : Nat} (I : Inv X pins σ H s) (h1 : -(2 ^ 62) <= lo) (h2 : lo < 2 ^ 62) (h3 : -(2 ^ 62) <= hi) (h4 : hi < 2 ^ 62)
  (q : R (Itr lo (hi - lo).toNat) H) : wpAny (model X.prog X.w) X.A (pyIter (.ref s.heap.objs.size)) (PIE X pins σ tg R) E { s with heap := s.heap.push { cls := .type "range", data := .fields #[.int lo t, .int hi u, .int 1 v] }, toks := tk } := by
 refine wpAny_pyIter_range (IsRange.new ..) (small_one h1 h2 h3 h4) ?_
 have I1 : Inv X pins σ H { s with heap := s.heap.push { cls := .type "range", data := .fields #[.int lo t, .int hi u, .int 1 v] }, toks := tk } := I.kept fun b o e => Heap.get?_push_of_some _ e
 refine ⟨(s.heap.push { cls := .type "range", data := .fields #[.int lo t, .int hi u, .int 1 v] }).objs.size, [(s.heap.push { cls := .type "range", data := .fields #[.int lo t, .int hi u, .int 1 v] }).objs.size], _, _, H, rfl,
  I1.kept (t':=tk) fun b o e => Heap.get?_push_of_some _ e, znw _ lo (hi - lo).toNat, ?_, fun b hb => ?_, q⟩
 ·have e1 : lo + ((0 : Nat) : Int) * 1 = lo := by simp
  have e2 : (((hi - lo).toNat : Nat) : Int) - ((0 : Nat) : Int) = Builtin.Range.rangeSize lo hi 1 := by rw [rangeSize_one]; split <;> omega
  show IsRangeIter _ _ (lo + ((0 : Nat) : Int) * 1) ((((hi - lo).toNat : Nat) : Int) - ((0 : Nat) : Int)) 1
  rw [e1, e2]
  exact Heap.get?_push_size _ rfl
 ·have e : b = (s.heap.push { cls := .type "range", data := .fields #[.int lo t, .int hi u, .int 1 v] }).objs.size := by simpa using hb
  subst e
  exact I1.fpOk (Nat.le_refl _) (I1.hok.fresh (Nat.le_refl _))
noncomputable def zyq (ta : TA) : TI := fun σ H R => ta σ H fun vs H1 => ∃ j : Int, vs = [.int j] /\ -(2 ^ 62) <= j /\ j < 2 ^ 62 /\ R (Itr 0 j.toNat) H1
theorem zo7 {a : Expr} {ta : TA} {p pos : Pos} (hg : Gl X "range") (hm : X.mg "range" = none) (ha : PA X [a] ta) (hs : starEach [a] X.env = [(false, eval a X.env)] := by rfl) : PI X tg (.Call (.Name "range" p) [a] [] pos) (zyq ta) := by
 intro pins s σ H R I h
 refine Call_ (zkc I hg hm boot_range (PyProof.Rows.callWith_type1 (thn (ha pos pins s σ H _ I h) fun us s1 hz9 => ?_) hs rfl))
 obtain ⟨vs, H1, I1, r1, q1⟩ := hz9
 obtain ⟨j, e, q1, q2, q⟩ := q1
 subst e
 cases r1 with
 | cons r rr =>
  cases rr
  obtain ⟨t, rfl⟩ := r
  exact call_range_1 (zte I1 (by omega) (by omega) q1 q2 (by simpa using q))
noncomputable def tFor (wi : TI) (g : TG) (tb : TS) : TS := fun D σ H => wi σ H fun J H1 => ∃ W : Nat -> Nat -> St -> Hp -> Prop, (∃ m, W 0 m σ H1) /\ ∀ i m σ H, W i m σ H ->
 (J.stop i H /\ D.nx σ H) \/ (J.go i H /\ ∃ N : St -> Hp -> Prop, (∀ σ' H', N σ' H' -> ∃ m', m' < m /\ W (i + 1) m' σ' H') /\ ∀ x H', J.yld i H x H' -> g x σ H' fun σ2 H2 => tb { D with nx := N, ct := N, bk := D.nx } σ2 H2)
noncomputable def zhs (fp : List Addr) (h : Heap) : List (Addr × Obj) := fp.filterMap fun b => (h.get? b).map fun o => (b, o)
theorem zci {fp : List Addr} {h : Heap} {b : Addr} {o : Obj} (hb : b ∈ fp) (e : h.get? b = some o) : (b, o) ∈ zhs fp h := List.mem_filterMap.mpr ⟨b, hb, by rw [e]; rfl⟩
theorem zqj {fp : List Addr} {h : Heap} {p : Addr × Obj} (hp : p ∈ zhs fp h) : p.1 ∈ fp /\ h.get? p.1 = some p.2 := by
 obtain ⟨b, hb, e⟩ := List.mem_filterMap.mp hp
 cases q : h.get? b with
 | none => rw [q] at e; cases e
 | some o =>
  rw [q] at e
  have e' : (b, o) = p := Option.some.inj e
  subst e'
  exact ⟨hb, q⟩
theorem Inv.pinned {pins : List (Addr × Obj)} {σ : St} {H : Hp} {s : Shared} {fp : List Addr} (I : Inv X pins σ H s) (hf : ∀ b ∈ fp, FpOk X pins H b) (ho : ∀ b ∈ fp, ∃ o, s.heap.get? b = some o /\ ∀ v, o.data ≠ .cell v) : Inv X (pins ++ zhs fp s.heap) σ H s :=
 I.pins_of fun p hp => (List.mem_append.mp hp).elim (fun z => I.pin p (List.mem_append_right _ z)) fun z => by
  obtain ⟨hb, e⟩ := zqj z
  obtain ⟨f0, f1, f2, _⟩ := hf p.1 hb
  obtain ⟨o, e', d⟩ := ho p.1 hb
  rw [e] at e'; cases e'
  exact ⟨e, f0, f1, f2, d⟩
theorem Inv.unpinned {pins pl : List (Addr × Obj)} {σ : St} {H : Hp} {s : Shared} (I : Inv X (pins ++ pl) σ H s) : Inv X pins σ H s := I.pins_of fun p hp => I.pin p (List.mem_append_right _ (List.mem_append_left _ hp))
theorem zum {iter : Expr} {body : List Stmt} {wi : TI} {g : TG} {tb : TS} {pos : Pos} (hp : PassesOwn (model X.prog X.w) X.A X.env X.xe) (hc : X.calm = true) (hi : PI X tg iter wi) (hg : PG X tg g) (hb : PSs X body tb)
  (hs : ∀ x, foldedSetIterable iter X.env x = pure x := by intro _; rfl) : PS X (.For tg iter body [] pos) (tFor wi g tb) := by
 intro pins s σ H D I h
 refine wpAny_For (thn (hi pins s σ H _ I h) fun v s1 h1 => thn h1 fun itv s2 h2 => ?_) hs
 obtain ⟨it, fp, tn, J, H2, e, I2, T, st2, f2, W, ⟨m0, w0⟩, turn⟩ := h2
 subst e
 -- what stays true of the iterator's objects through the loop
 have stat : ∀ {H' : Hp}, (∀ b ∈ fp, H' b = none) -> ∀ b ∈ fp, FpOk X pins H' b := fun hn b hb => ⟨hn b hb, (f2 b hb).2⟩
 refine codeAny_forLoop_any (fun n s' => ∃ i σ' H', Inv X pins σ' H' s' /\ tn i s'.heap /\ (∀ b ∈ fp, H' b = none) /\ W i n σ' H') ?_ m0 ⟨0, σ, H2, I2, st2, fun b hb => (f2 b hb).1, w0⟩
 rintro n s3 ⟨i, σ3, H3, I3, st3, fr3, w3⟩
 rcases turn i n σ3 H3 w3 with ⟨stop, qn⟩ | ⟨go, N, hN, step⟩
 ·refine wpAny_passesOwn hp (thn (T.done X rfl rfl rfl hc i pins s3 σ3 H3 X.xe I3 (stat fr3) st3 stop) fun r s4 hz9 => ?_)
  obtain ⟨hr, I4⟩ := hz9
  subst hr
  exact wpAny_execs_nil ⟨σ3, H3, I4, qn⟩
 ·refine wpAny_passesOwn hp (thn (T.item X rfl rfl rfl hc i pins s3 σ3 H3 X.xe I3 (stat fr3) st3 go) fun r s4 hz9 => ?_)
  obtain ⟨u, hr, h4⟩ := hz9
  subst hr
  refine wpAny_passesOwn hp (thn h4 fun _ s5 hz9 => ?_)
  obtain ⟨x, H5, I5, r5, y5, st5, fr5⟩ := hz9
  have I5' := I5.pinned (stat fr5) (T.obj _ _ st5)
  refine wpAny_passesOwn hp (thn (hg _ s5 σ3 H5 x u _ I5' r5 (step x H5 y5)) fun _ s6 hz9 => ?_)
  obtain ⟨σ6, H6, I6, q6⟩ := hz9
  refine wpAny_passesOwn hp (thn (hb _ s6 σ6 H6 _ I6 q6) fun f s7 q7 => ?_)
  have again : ∀ {σ7 : St} {H7 : Hp}, Inv X (pins ++ zhs fp s5.heap) σ7 H7 s7 -> N σ7 H7 -> ∃ m, m < n /\ ∃ i σ' H', Inv X pins σ' H' s7 /\ tn i s7.heap /\ (∀ b ∈ fp, H' b = none) /\ W i m σ' H' := fun {σ7 H7} I7 n7 => by
   obtain ⟨m', hm, w7⟩ := hN σ7 H7 n7
   refine ⟨m', hm, i + 1, σ7, H7, I7.unpinned, T.keep _ _ _ st5 fun b hb o e => (I7.pin (b, o) (List.mem_append_right _ (List.mem_append_right _ (zci hb e)))).1, fun b hb => ?_, w7⟩
   obtain ⟨o, e, d⟩ := T.obj _ _ st5 b hb
   exact (I7.pin (b, o) (List.mem_append_right _ (List.mem_append_right _ (zci hb e)))).2.1
  cases f with
  | next => obtain ⟨σ7, H7, I7, n7⟩ := q7; exact again I7 n7
  | cont => obtain ⟨σ7, H7, I7, n7⟩ := q7; exact again I7 n7
  | brk => obtain ⟨σ7, H7, I7, q7⟩ := q7; exact ⟨σ7, H7, I7.unpinned, q7⟩
  | ret v => obtain ⟨x7, σ7, H7, I7, r7, q7⟩ := q7; exact ⟨x7, σ7, H7, I7.unpinned, r7, q7⟩
end
end L2
namespace L2
open PySem PySem.Spec PyProof.Rows
noncomputable abbrev R2 := V -> V -> Hp -> VK -> Prop
noncomputable def OpR (X : Cx) (f : Value -> Value -> Sem Value) (r : R2) : Prop :=
 ∀ (pins : List (Addr × Obj)) (s : Shared) (σ : St) (H : Hp) (x y : V) (v u : Value) (Q : VK), Inv X pins σ H s -> RelV x v -> RelV y u -> r x y H Q ->
  wpAny (model X.prog X.w) X.A (f v u) (EP X pins σ Q) X.xe s
noncomputable def zca (X : Cx) (f : Value) (r : List V -> Hp -> VK -> Prop) : Prop :=
 ∀ (pins : List (Addr × Obj)) (s : Shared) (σ : St) (H : Hp) (xs : List V) (us : List Value) (Q : VK), Inv X pins σ H s -> Vals xs us -> r xs H Q ->
  wpAny (model X.prog X.w) X.A (call f us) (EP X pins σ Q) X.xe s
noncomputable def tOp (r : R2) (ta tb : TE) : TE := fun σ H Q => ta σ H fun x H1 => tb σ H1 fun y H2 => r x y H2 Q
noncomputable def rI (C : Int -> Int -> Prop) (g : Int -> Int -> V) : R2 := fun x y H Q => ∃ i j, x = .int i /\ y = .int j /\ C i j /\ Q (g i j) H
noncomputable def rI0 (g : Int -> Int -> V) : R2 := fun x y H Q => ∃ i j, x = .int i /\ y = .int j /\ Q (g i j) H
section
variable {X : Cx} {a b c : Expr} {ta tb tc : TE} {pos : Pos}
theorem binT (ha : PE X a ta) (hb : PE X b tb) {pins : List (Addr × Obj)} {s : Shared} {σ : St} {H : Hp} {R : V -> V -> Hp -> Prop} (I : Inv X pins σ H s)
  (h : ta σ H fun x H1 => tb σ H1 fun y H2 => R x y H2) {Q : Value -> Shared -> Prop} {f : Value -> Value -> Sem Value}
  (hf : ∀ v u s2 x y H2, Inv X pins σ H2 s2 -> RelV x v -> RelV y u -> R x y H2 -> wpAny (model X.prog X.w) X.A (f v u) Q X.xe s2) :
  wpAny (model X.prog X.w) X.A (eval a X.env) (fun v s₁ => wpAny (model X.prog X.w) X.A (eval b X.env) (fun u s₂ => wpAny (model X.prog X.w) X.A (f v u) Q X.xe s₂) X.xe s₁) X.xe s := by
 refine thn (ha pins s σ H _ I h) fun v s1 hz9 => ?_
 obtain ⟨x, H1, I1, r1, q1⟩ := hz9
 refine thn (hb pins s1 σ H1 _ I1 q1) fun u s2 hz9 => ?_
 obtain ⟨y, H2, I2, r2, q2⟩ := hz9
 exact hf v u s2 x y H2 I2 r1 r2 q2
theorem za3 {op : Operator} {r : R2} (ho : OpR X (binaryOp op) r) (ha : PE X a ta) (hb : PE X b tb) : PE X (.BinOp a op b pos) (tOp r ta tb) := by
 intro pins s σ H Q I h
 exact wpAny_BinOp (binT ha hb I h fun v u s2 x y H2 I2 rx ry q => ho pins s2 σ H2 x y v u Q I2 rx ry q)
theorem opI {f : Value -> Value -> Sem Value} {C : Int -> Int -> Prop} {g : Int -> Int -> Int}
  (rule : ∀ (i j : Int) (t u : Tok) (s : Shared) (Q : Value -> Shared -> Prop) (E : Value -> Shared -> Prop), C i j -> Q (.int (g i j) s.toks) { s with toks := s.toks + 1 } -> wpAny (model X.prog X.w) X.A (f (.int i t) (.int j u)) Q E s) :
  OpR X f (rI C fun i j => .int (g i j)) := by
 intro pins s σ H x y v u Q I rx ry h
 obtain ⟨i, j, rfl, rfl, hc, q⟩ := h
 obtain ⟨t, rfl⟩ := rx
 obtain ⟨t', rfl⟩ := ry
 exact rule i j t t' s _ _ hc ⟨.int (g i j), H, I.tok _, ⟨_, rfl⟩, q⟩
theorem opI0 {f : Value -> Value -> Sem Value} {g : Int -> Int -> Int}
  (rule : ∀ (i j : Int) (t u : Tok) (s : Shared) (Q : Value -> Shared -> Prop) (E : Value -> Shared -> Prop), Q (.int (g i j) s.toks) { s with toks := s.toks + 1 } -> wpAny (model X.prog X.w) X.A (f (.int i t) (.int j u)) Q E s) :
  OpR X f (rI0 fun i j => .int (g i j)) := by
 intro pins s σ H x y v u Q I rx ry h
 obtain ⟨i, j, rfl, rfl, q⟩ := h
 obtain ⟨t, rfl⟩ := rx
 obtain ⟨t', rfl⟩ := ry
 exact rule i j t t' s _ _ ⟨.int (g i j), H, I.tok _, ⟨_, rfl⟩, q⟩
theorem opB0 {f : Value -> Value -> Sem Value} {g : Int -> Int -> Bool}
  (rule : ∀ (i j : Int) (t u : Tok) (s : Shared) (Q : Value -> Shared -> Prop) (E : Value -> Shared -> Prop), Q (.bool (g i j)) s -> wpAny (model X.prog X.w) X.A (f (.int i t) (.int j u)) Q E s) :
  OpR X f (rI0 fun i j => .bl (g i j)) := by
 intro pins s σ H x y v u Q I rx ry h
 obtain ⟨i, j, rfl, rfl, q⟩ := h
 obtain ⟨t, rfl⟩ := rx
 obtain ⟨t', rfl⟩ := ry
 exact rule i j t t' s _ _ ⟨.bl (g i j), H, I, rfl, q⟩
noncomputable def CDiv (i j : Int) : Prop := 0 < j /\ j < 1073741824
noncomputable def CMul (i j : Int) : Prop := (-(2 ^ 64) < i /\ i < 2 ^ 64) \/ (-(2 ^ 64) < j /\ j < 2 ^ 64)
theorem CMul.ok {i j : Int} (h : CMul i j) : IntMulOk i j := by
 rcases h with ⟨h1, h2⟩ | ⟨h1, h2⟩
 ·exact .of_left (intBits_le_64 h1 h2)
 ·exact .of_right (intBits_le_64 h1 h2)
theorem ze9 : OpR X (binaryOp .Add) (rI0 fun i j => .int (i + j)) := opI0 fun _ _ _ _ _ _ _ q => add_int q
theorem zxs : OpR X (binaryOp .Sub) (rI0 fun i j => .int (i - j)) := opI0 fun _ _ _ _ _ _ _ q => sub_int q
theorem zt0 : OpR X (binaryOp .Mult) (rI CMul fun i j => .int (i * j)) := opI fun _ _ _ _ _ _ _ hc q => mul_int q hc.ok
theorem zf7 : OpR X (binaryOp .FloorDiv) (rI CDiv fun i j => .int (i / j)) := opI fun i j _ _ _ _ _ hc q => by
 have h1 : (0 : Int) < j := hc.1
 have h2 : j < 1073741824 := hc.2
 exact floordiv_int (by omega) (by rw [Int.fdiv_eq_ediv_of_nonneg i (by omega)]; exact q) (.inl (PyProof.noPylong_small (by omega)))
theorem zb9 : OpR X (binaryOp .Mod) (rI (fun _ j => 0 < j) fun i j => .int (i % j)) := opI fun i j _ _ _ _ _ hc q => by
 have h1 : (0 : Int) < j := hc
 exact mod_int' (by omega) (by rw [Int.fmod_eq_emod_of_nonneg i (by omega)]; exact q)
end
noncomputable def scal : V -> V -> Bool
 | .non, .non => true | .non, .int _ => true | .int _, .non => true | .non, .bl _ => true | .bl _, .non => true | .non, .str _ => true | .str _, .non => true
 | .int _, .int _ => true | .bl _, .bl _ => true | .str _, .str _ => true | .byt _, .byt _ => true
 | .int _, .str _ => true | .str _, .int _ => true | .bl _, .str _ => true | .str _, .bl _ => true
 | _, _ => false
noncomputable def rEq : R2 := fun x y H Q => scal x y = true /\ Q (.bl (decide (x = y))) H
noncomputable def rNe : R2 := fun x y H Q => scal x y = true /\ Q (.bl (!decide (x = y))) H
theorem zpv {i j : Int} : decide (V.int i = V.int j) = (i == j) := by
 rw [Bool.eq_iff_iff]
 simp
theorem zub {i j : Bool} : decide (V.bl i = V.bl j) = (i == j) := by
 rw [Bool.eq_iff_iff]
 simp
theorem zpi {i j : Str} : decide (V.str i = V.str j) = (i == j) := by
 rw [Bool.eq_iff_iff]
 simp
theorem zoq {i j : Array UInt8} : decide (V.byt i = V.byt j) = (i.toList == j.toList) := by
 rw [Bool.eq_iff_iff]
 cases i
 cases j
 simp
section
variable {X : Cx} {a b c : Expr} {ta tb tc : TE} {pos : Pos}
theorem zaz {pins : List (Addr × Obj)} {σ : St} {H : Hp} {s : Shared} {Q : VK} {k k' : Bool} (I : Inv X pins σ H s) (q : Q (.bl k) H) (e : k = k') : EP X pins σ Q (.bool k') s := by
 subst e
 exact ⟨.bl k, H, I, rfl, q⟩
theorem znr : OpR X (compareOp .Eq) rEq := by
 intro pins s σ H x y v u Q I rx ry h
 obtain ⟨hs, q⟩ := h
 cases x with
 | non =>
  cases rx
  cases y with
  | non => cases ry; exact PySem.EqNone.eq_none_none (zaz I q (by simp))
  | bl j => cases ry; exact PySem.EqNone.eq_none_bool (zaz I q (by simp))
  | int j => obtain ⟨t', rfl⟩ := ry; exact PySem.EqNone.eq_none_int (zaz I q (by simp))
  | str j => obtain ⟨t', rfl⟩ := ry; exact PySem.EqNone.eq_none_str (zaz I q (by simp))
  | _ => exact absurd (show false = true from hs) Bool.false_ne_true
 | bl i =>
  cases rx
  cases y with
  | non => cases ry; exact PySem.EqNone.eq_bool_none (zaz I q (by simp))
  | bl j => cases ry; exact eq_bool (zaz I q zub)
  | str j => obtain ⟨t', rfl⟩ := ry; exact PySem.EqMixed.eq_bool_str (zaz I q (by simp))
  | _ => exact absurd (show false = true from hs) Bool.false_ne_true
 | int i =>
  obtain ⟨t, rfl⟩ := rx
  cases y with
  | non => cases ry; exact PySem.EqNone.eq_int_none (zaz I q (by simp))
  | int j => obtain ⟨t', rfl⟩ := ry; exact eq_int (zaz I q zpv)
  | str j => obtain ⟨t', rfl⟩ := ry; exact PySem.EqMixed.eq_int_str (zaz I q (by simp))
  | _ => exact absurd (show false = true from hs) Bool.false_ne_true
 | str i =>
  obtain ⟨t, rfl⟩ := rx
  cases y with
  | non => cases ry; exact PySem.EqNone.eq_str_none (zaz I q (by simp))
  | bl j => cases ry; exact PySem.EqMixed.eq_str_bool (zaz I q (by simp))
  | int j => obtain ⟨t', rfl⟩ := ry; exact PySem.EqMixed.eq_str_int (zaz I q (by simp))
  | str j => obtain ⟨t', rfl⟩ := ry; exact eq_str (zaz I q zpi)
  | _ => exact absurd (show false = true from hs) Bool.false_ne_true
 | byt i =>
  obtain ⟨t, rfl⟩ := rx
  cases y with
  | byt j => obtain ⟨t', rfl⟩ := ry; exact PySem.W.eq_bytes (zaz I q zoq)
  | _ => exact absurd (show false = true from hs) Bool.false_ne_true
 | _ => cases y <;> exact absurd (show false = true from hs) Bool.false_ne_true
theorem zw9 : OpR X (compareOp .NotEq) rNe := by
 intro pins s σ H x y v u Q I rx ry h
 obtain ⟨hs, q⟩ := h
 cases x with
 | non =>
  cases rx
  cases y with
  | non => cases ry; exact PySem.EqNone.ne_none_none (zaz I q (by simp))
  | bl j => cases ry; exact PySem.EqNone.ne_none_bool (zaz I q (by simp))
  | int j => obtain ⟨t', rfl⟩ := ry; exact PySem.EqNone.ne_none_int (zaz I q (by simp))
  | str j => obtain ⟨t', rfl⟩ := ry; exact PySem.EqNone.ne_none_str (zaz I q (by simp))
  | _ => exact absurd (show false = true from hs) Bool.false_ne_true
 | bl i =>
  cases rx
  cases y with
  | non => cases ry; exact PySem.EqNone.ne_bool_none (zaz I q (by simp))
  | bl j => cases ry; exact ne_bool (zaz I q (congrArg not zub))
  | str j => obtain ⟨t', rfl⟩ := ry; exact PySem.EqMixed.ne_bool_str (zaz I q (by simp))
  | _ => exact absurd (show false = true from hs) Bool.false_ne_true
 | int i =>
  obtain ⟨t, rfl⟩ := rx
  cases y with
  | non => cases ry; exact PySem.EqNone.ne_int_none (zaz I q (by simp))
  | int j => obtain ⟨t', rfl⟩ := ry; exact ne_int (zaz I q (congrArg not zpv))
  | str j => obtain ⟨t', rfl⟩ := ry; exact PySem.EqMixed.ne_int_str (zaz I q (by simp))
  | _ => exact absurd (show false = true from hs) Bool.false_ne_true
 | str i =>
  obtain ⟨t, rfl⟩ := rx
  cases y with
  | non => cases ry; exact PySem.EqNone.ne_str_none (zaz I q (by simp))
  | bl j => cases ry; exact PySem.EqMixed.ne_str_bool (zaz I q (by simp))
  | int j => obtain ⟨t', rfl⟩ := ry; exact PySem.EqMixed.ne_str_int (zaz I q (by simp))
  | str j => obtain ⟨t', rfl⟩ := ry; exact ne_str (zaz I q (congrArg not zpi))
  | _ => exact absurd (show false = true from hs) Bool.false_ne_true
 | byt i =>
  obtain ⟨t, rfl⟩ := rx
  cases y with
  | byt j => obtain ⟨t', rfl⟩ := ry; exact PySem.W.ne_bytes (zaz I q (congrArg not zoq))
  | _ => exact absurd (show false = true from hs) Bool.false_ne_true
 | _ => cases y <;> exact absurd (show false = true from hs) Bool.false_ne_true
theorem zxj : OpR X (compareOp .Lt) (rI0 fun i j => .bl (decide (i < j))) := opB0 fun _ _ _ _ _ _ _ q => lt_int q
theorem zsa : OpR X (compareOp .LtE) (rI0 fun i j => .bl (decide (i <= j))) := opB0 fun _ _ _ _ _ _ _ q => le_int q
theorem zp6 : OpR X (compareOp .In) (fun x y H Q => ∃ i j, x = .str i /\ y = .str j /\ Q (.bl (!(Builtin.Str.occurrences j i 0 j.length 1).isEmpty)) H) := by
 intro pins s σ H x y v u Q I rx ry h
 obtain ⟨i, j, rfl, rfl, q⟩ := h
 obtain ⟨t, rfl⟩ := rx
 obtain ⟨t', rfl⟩ := ry
 exact in_str (zaz I q rfl)
theorem zvf : OpR X (compareOp .IsNot) (fun x y H Q => y = .non /\ Q (.bl (!decide (x = .non))) H) := by
 intro pins s σ H x y v u Q I rx ry h
 obtain ⟨rfl, q⟩ := h
 cases ry
 refine isnot_none_gen (zaz I q ?_)
 cases x <;> first
  | (cases rx; rfl)
  | (obtain ⟨t, rfl⟩ := rx; rfl)
theorem zdf (b : Expr) {op : CmpOp} (h : op ≠ .In := by decide) (h2 : op ≠ .NotIn := by decide) : behindInMarks op b = false := by
 have e1 : (op == CmpOp.In) = false := by cases op <;> first | rfl | exact absurd rfl h
 have e2 : (op == CmpOp.NotIn) = false := by cases op <;> first | rfl | exact absurd rfl h2
 cases b <;> simp [behindInMarks, e1, e2]
theorem ze0 {op : CmpOp} {r : R2} (ho : OpR X (compareOp op) r) (ha : PE X a ta) (hb : PE X b tb) (hm : behindInMarks op b = false) : PE X (.Compare a [op] [b] pos) (tOp r ta tb) := by
 intro pins s σ H Q I h
 exact wpAny_Compare1 (binT ha hb I h fun v u s2 x y H2 I2 rx ry q => ho pins s2 σ H2 x y v u Q I2 rx ry q) hm
noncomputable def zwb (t : TE) : TT := fun σ H Q => t σ H fun x H' => ∃ k, x = .bl k /\ Q k H'
theorem zcv {op : CmpOp} {r : R2} (ho : OpR X (compareOp op) r) (ha : PE X a ta) (hb : PE X b tb) (hm : behindInMarks op b = false) : PT X (.Compare a [op] [b] pos) (zwb (tOp r ta tb)) := by
 intro pins s σ H Q I h
 refine wpAny_isTrue_Compare1 (thn (ha pins s σ H _ I h) fun v s1 ⟨x, H1, I1, r1, q1⟩ => thn (hb pins s1 σ H1 _ I1 q1) fun u s2 ⟨y, H2, I2, r2, q2⟩ =>
  thn (ho pins s2 σ H2 x y v u _ I2 r1 r2 q2) fun c s3 ⟨z, H3, I3, r3, k, e, q3⟩ => ?_) hm
 subst e
 cases r3
 exact wpAny_truthy_bool ⟨H3, I3, q3⟩
noncomputable def zl9 (r r' : R2) (ta tb tc : TE) : TE := fun σ H Q => ta σ H fun x H1 => tb σ H1 fun y H2 => r x y H2 fun z H3 => ∃ k, z = .bl k /\
 (if k = true then tc σ H3 fun w' H4 => r' y w' H4 Q else Q (.bl false) H3)
theorem zmk {op op' : CmpOp} {r r' : R2} (ho : OpR X (compareOp op) r) (ho' : OpR X (compareOp op') r') (ha : PE X a ta) (hb : PE X b tb) (hc : PE X c tc)
  (hm : lastMarks [op, op'] [b, c] = false := by with_unfolding_all rfl) : PE X (.Compare a [op, op'] [b, c] pos) (zl9 r r' ta tb tc) := by
 intro pins s σ H Q I h
 refine Compare_chain (thn (ha pins s σ H _ I h) fun v s1 ⟨x, H1, I1, r1, q1⟩ => chain_link (thn (hb pins s1 σ H1 _ I1 q1) fun u s2 ⟨y, H2, I2, r2, q2⟩ =>
  thn (ho pins s2 σ H2 x y v u _ I2 r1 r2 q2) fun d s3 ⟨z, H3, I3, r3, k, e, q3⟩ => ?_)) hm
 subst e
 cases r3
 refine wpAny_truthy_bool ?_
 cases k with
 | false => exact ite_ff ⟨.bl false, H3, I3, rfl, q3⟩
 | true => exact ite_tt (chain_last (thn (hc pins s3 σ H3 _ I3 q3) fun w' s4 ⟨z', H4, I4, r4, q4⟩ => ho' pins s4 σ H4 y z' u w' Q I4 r2 r4 q4))
theorem zs2 {op op' : CmpOp} {r r' : R2} (ho : OpR X (compareOp op) r) (ho' : OpR X (compareOp op') r') (ha : PE X a ta) (hb : PE X b tb) (hc : PE X c tc)
  (hm : lastMarks [op, op'] [b, c] = false := by with_unfolding_all rfl) : PT X (.Compare a [op, op'] [b, c] pos) (zwb (zl9 r r' ta tb tc)) := by
 intro pins s σ H Q I h
 refine isTrue_chain (thn (ha pins s σ H _ I h) fun v s1 ⟨x, H1, I1, r1, q1⟩ => test_link (thn (hb pins s1 σ H1 _ I1 q1) fun u s2 ⟨y, H2, I2, r2, q2⟩ =>
  thn (ho pins s2 σ H2 x y v u _ I2 r1 r2 q2) fun d s3 ⟨z, H3, I3, r3, k, e, q3⟩ => ?_)) hm
 subst e
 cases r3
 refine wpAny_truthy_bool ?_
 cases k with
 | false =>
  obtain ⟨k', e', q'⟩ := q3
  cases e'
  exact ite_ff ⟨H3, I3, q'⟩
 | true =>
  refine ite_tt (test_last (thn (hc pins s3 σ H3 _ I3 q3) fun w' s4 ⟨z', H4, I4, r4, q4⟩ => thn (ho' pins s4 σ H4 y z' u w' _ I4 r2 r4 q4) fun d' s5 hz9 => ?_))
  obtain ⟨z2, H5, I5, r5, k2, e2, q5⟩ := hz9
  subst e2
  cases r5
  exact wpAny_truthy_bool ⟨H5, I5, q5⟩
theorem zmw : (sizeLine : Nat) < 2 ^ 63 := by rw [sizeLine_eq]; decide
theorem za4 : OpR X (binaryOp .Add) (fun x y H Q => ∃ i j, x = .str i /\ y = .str j /\ i.length + j.length <= sizeLine /\ Q (.str (i ++ j)) H) := by
 intro pins s σ H x y v u Q I rx ry h
 obtain ⟨i, j, rfl, rfl, hz, q⟩ := h
 obtain ⟨t, rfl⟩ := rx
 obtain ⟨t', rfl⟩ := ry
 exact add_str (fun t' tk => ⟨.str (i ++ j), H, I.tok _, ⟨_, rfl⟩, q⟩) hz
theorem zfo {x : V} {us : List Value} (r : Vals [x] us) : ∃ u, us = [u] /\ RelV x u := by
 cases r with
 | cons r1 r2 => cases r2; exact ⟨_, rfl, r1⟩
theorem zke {x y : V} {us : List Value} (r : Vals [x, y] us) : ∃ u w', us = [u, w'] /\ RelV x u /\ RelV y w' := by
 cases r with
 | cons r1 r2 =>
  cases r2 with
  | cons r3 r4 => cases r4; exact ⟨_, _, rfl, r1, r3⟩
theorem zto : zca X (.builtin "ord") (fun xs H Q => ∃ x, xs = [.str x] /\ x.length = 1 /\ Q (.int (x.cps.getD 0 0 : Nat)) H) := by
 intro pins s σ H xs us Q I r h
 obtain ⟨x, rfl, hz, q⟩ := h
 obtain ⟨u, rfl, t, rfl⟩ := zfo r
 exact ord_of_one hz ⟨.int _, H, I.tok _, ⟨_, rfl⟩, q⟩
end
end L2
namespace L2
open PySem PySem.Spec PyProof.Rows
structure ObjM (h : Heap) (x dx C : Addr) (mA : Str -> Option Value) : Prop where
 obj : h.get? x = some (PySem.W.instObj C dx)
 ns : h.Ns1 dx mA
 ne : dx ≠ x
theorem zpp {h : Heap} {dx : Addr} {mA : Str -> Option Value} (n : h.Ns1 dx mA) : ∃ od, h.get? dx = some od /\ ∀ name, PySem.W.lookIn name od = some (mA name) := by
 obtain ⟨o, es, ep, ho, hd, hk, _, hm⟩ := n
 refine ⟨o, ho, fun name => ?_⟩
 have e := hm name
 unfold nsFind findBy at e
 rw [<- Array.find?_toList] at e
 unfold PySem.W.lookIn
 rw [hd]
 dsimp only
 split
 ·rename_i y q
  rw [q] at e
  exact congrArg some e
 ·rename_i q
  rw [q] at e
  have a : es.toList.any (·.refKey) = false := by
   rw [List.any_eq_false]
   intro y hy
   obtain ⟨z, t, hkey⟩ := hk y (Array.mem_toList_iff.mp hy)
   simp [DictEntry.refKey, hkey]
  have a' : ¬ es.toList.any (·.refKey) = true := by rw [a]; exact Bool.false_ne_true
  rw [if_neg a']
  exact congrArg some e
section
variable {prog : Program} {w : World} {A : Around} {E : Value -> Shared -> Prop} {s : Shared} {K : PySem.W.Frag} {x dx C f : Addr} {mA : Str -> Option Value} {name : Str} {v : Value}
end
theorem RelO.some_of {v : V} {o : Option Value} (r : RelO (some v) o) : ∃ u, o = some u /\ RelV v u := by
 cases o with
 | none => exact (show False from r).elim
 | some u => exact ⟨u, rfl, r⟩
theorem zo3 {v : V} {u : Value} (r : RelV v u) : PySem.W.handedIn u = true := by
 cases v with
 | non => cases (show u = Value.none from r); rfl
 | bl b => cases (show u = Value.bool b from r); rfl
 | int i => obtain ⟨t, e⟩ := (show ∃ t, u = Value.int i t from r); cases e; rfl
 | str x => obtain ⟨t, e⟩ := (show ∃ t, u = Value.str x t from r); cases e; rfl
 | byt b => obtain ⟨t, e⟩ := (show ∃ t, u = Value.bytes b t from r); cases e; rfl
 | flt b => obtain ⟨t, e⟩ := (show ∃ t, u = Value.float b t from r); cases e; rfl
 | ref a => cases (show u = Value.ref a from r); rfl
 | ty n => cases (show u = Value.type n from r); rfl
structure Cls (K : PySem.W.Frag) (C : Addr) : Prop where
 pg : PySem.W.plainGet K C Str.empty = true
 hd : PySem.W.hasDictIn K C = true
 po : PySem.W.plainOver K C = true
 sa : PySem.W.findIn K (.ref C) "__setattr__" = some (some (.builtin "object.__setattr__"))
noncomputable def zrc (K : PySem.W.Frag) (C : Addr) (f : Str) : Prop := PySem.W.findIn K (.ref C) f = some none
structure Con (K : PySem.W.Frag) (C : Addr) (f : Str) (v : V) (u : Value) : Prop where
 at_ : PySem.W.findIn K (.ref C) f = some (some u)
 rel : RelV v u
 get : PySem.W.specialIn K u "__get__" = some none
 cp : PySem.W.copiedNames.contains f = false
structure Meth (K : PySem.W.Frag) (C : Addr) (m : Str) (f : Addr) : Prop where
 at_ : PySem.W.findIn K (.ref C) m = some (some (.ref f))
 fn : PySem.W.isFn K (.ref f) = true
 kp : PySem.W.keepIn K (.ref f) = true
section
variable {X : Cx} {pins : List (Addr × Obj)} {σ : St} {H : Hp} {s : Shared} {a C dx : Addr} {fs : List (Str × V)} {f : Str} {v : V} {A : Around} {E : Value -> Shared -> Prop}
theorem zwf {prog : Program} {w : World} {env : Env} {e : Expr} {f : Str} {pos : Pos} {s : Shared} {Q : Value -> Shared -> Prop} (hb : attributeBase e f env (eval e env) = eval e env)
  (h : wpAny (model prog w) A (eval e env) (fun o s₁ => wpAny (model prog w) A (getAttr o f true) Q E s₁) E s) : wpAny (model prog w) A (eval (.Attribute e f pos) env) Q E s :=
 Attribute_any_ h (by rw [arm_eval_Attribute, hb])
end
section
variable {X : Cx} {pins : List (Addr × Obj)} {σ : St} {H : Hp} {s : Shared} {A : Around} {E : Value -> Shared -> Prop} {Q : Value -> Shared -> Prop} {c : Value} {b : Bool}
inductive TyOf (K : PySem.W.Frag) (H : Hp) : V -> Value -> Prop where
 | non : TyOf K H .non (.type "NoneType")
 | bl (x : Bool) : TyOf K H (.bl x) (.type "bool")
 | int (i : Int) : TyOf K H (.int i) (.type "int")
 | str (x : Str) : TyOf K H (.str x) (.type "str")
 | flt (x : UInt64) : TyOf K H (.flt x) (.type "float")
 | lst {a : Addr} {xs : List V} (e : H a = some (.lst xs)) : TyOf K H (.ref a) (.type "list")
 | frz {a : Addr} {o : Obj} {xs : List V} (e : H a = some (.frz o (.lst xs))) : TyOf K H (.ref a) (.type "list")
 | tup {a : Addr} {xs : List V} (e : H a = some (.tup xs)) : TyOf K H (.ref a) (.type "tuple")
 | dK {a : Addr} {kvs : List (Key × V)} (e : H a = some (.dK kvs)) : TyOf K H (.ref a) (.type "dict")
 | dT {a : Addr} {kvs : List (List Key × V)} (e : H a = some (.dT kvs)) : TyOf K H (.ref a) (.type "dict")
 | ins {a C dx : Addr} {fs : List (Str × V)} (e : H a = some (.ins C dx fs)) (cl : Cls K C) (ha : PySem.W.findIn K (.ref C) "__class__" = some (some (.builtin "object.__class__")))
   (hn : PySem.W.specialIn K (.builtin "object.__class__") "__get__" = some (some (.builtin "getset_descriptor.__get__"))) (htk : PySem.W.takesIn K (.builtin "object.__class__") = some true)
   (hm : PySem.W.mroIn K C (.type "object") = some true) : TyOf K H (.ref a) (.ref C)
end
end L2
namespace L2
open PySem PySem.Spec PyProof.Rows
structure Room (k : Nat) (A : Around) : Prop where
 hd : A.handled = none
 dp : A.depth + 3 * k + 5 < recursionLimit
 un : A.units + 16 * k + 200 < cLine
 gd : A.guards = some []
theorem Room.mono {j k : Nat} {A : Around} (r : Room k A) (h : j <= k) : Room j A := ⟨r.hd, by have := r.dp; omega, by have := r.un; omega, r.gd⟩
theorem Room.deeper {k : Nat} {A : Around} (r : Room (k + 1) A) (env : Env) : Room k (A.deeper env) :=
 ⟨r.hd, by have := r.dp; show A.depth + 1 + 3 * k + 5 < _; omega, by have := r.un; show A.units + 3 + 16 * k + 200 < _; omega, r.gd⟩
theorem zhp {A : Around} {C : Addr} {us : List Value} {kw : List (Str × Value)} : (A.under (.builtin "type.__call__" ⟨.ref C :: us, kw⟩)).depth = A.depth + 1 := by
 first | rfl | simp [Around.under, Code.weight, Code.isCreation, Code.isGuard, Code.isCaller, Code.frames, Code.isFrame, guardIds]
theorem zhl {A : Around} {C : Addr} {us : List Value} {kw : List (Str × Value)} : (A.under (.builtin "type.__call__" ⟨.ref C :: us, kw⟩)).units = A.units + 1 := by
 first | rfl | simp [Around.under, Code.cUnits, Code.frames, Code.isFrame]
theorem Room.make {k : Nat} {A : Around} (r : Room (k + 1) A) (C : Addr) (us : List Value) (kw : List (Str × Value)) : Room k (A.under (.builtin "type.__call__" ⟨.ref C :: us, kw⟩)) :=
 ⟨r.hd, by have := r.dp; rw [zhp]; omega, by have := r.un; rw [zhl]; omega, r.gd⟩
theorem Room.depth {k : Nat} {A : Around} (r : Room k A) : A.depth < recursionLimit := by have := r.dp; omega
theorem Room.units {k : Nat} {A : Around} (r : Room k A) : A.units + 64 < cLine := by have := r.un; omega
noncomputable def tNil : TA := fun _ H Q => Q [] H
noncomputable def zbe (ta : TE) (tr : TA) : TA := fun σ H Q => ta σ H fun x H1 => tr σ H1 fun xs H2 => Q (x :: xs) H2
section
variable {X : Cx} {e : Expr} {es : List Expr} {te : TE} {t : TA} {pos : Pos}
theorem zae : PA X [] tNil := fun _ _ _ _ H Q I h => Calls.spliced_nil ⟨[], H, I, .nil, h⟩
theorem zaa (ha : PE X e te) (hr : PA X es t) (hs : starEach (e :: es) X.env = (false, eval e X.env) :: starEach es X.env := by rfl) : PA X (e :: es) (zbe te t) := by
 intro pos pins s σ H Q I h
 rw [hs]
 show wpAny _ _ (spliced ((false, eval e X.env) :: backTo pos (starEach es X.env))) _ _ s
 refine Calls.spliced_cons (thn (ha pins s σ H _ I h) fun u s1 hz9 => ?_)
 obtain ⟨x, H1, I1, r1, q1⟩ := hz9
 refine thn (hr pos pins s1 σ H1 _ I1 q1) fun us s2 hz9 => ?_
 obtain ⟨xs, H2, I2, r2, q2⟩ := hz9
 exact ⟨x :: xs, H2, I2, .cons r1 r2, q2⟩
noncomputable def tTup (t : TA) : TE := fun σ H Q => t σ H fun xs H1 => xs.length <= sizeLine /\ ∀ p, H1 p = none -> Q (.ref p) (upd H1 p (.tup xs))
noncomputable def tLst (t : TA) : TE := fun σ H Q => t σ H fun xs H1 => xs.length <= sizeLine /\ ∀ p, H1 p = none -> Q (.ref p) (upd H1 p (.lst xs))
theorem zgq {x1} (h : PA X es t) : PE X (.Tuple es x1 pos) (tTup t) := by
 intro pins s σ H Q I hq
 refine wpAny_Tuple_spliced (thn (h pos pins s σ H _ I hq) fun us s1 ⟨xs, H1, I1, r, z, q⟩ => ⟨by rw [<- r.length]; exact z, ?_⟩)
 have hf : H1 s1.heap.objs.size = none := I1.hok.fresh (Nat.le_refl _)
 refine ⟨.ref s1.heap.objs.size, upd H1 s1.heap.objs.size (.tup xs), I1.laid (t':=s1.toks) (fun b u e => Heap.get?_push_of_some _ e) (Nat.le_refl _) ?_, rfl, q _ hf⟩
 exact ⟨z, us, r, ⟨_, Heap.get?_push_size _ rfl, rfl, _, rfl⟩⟩
theorem zep (h : PA X es t) : PE X (.List es pos) (tLst t) := by
 intro pins s σ H Q I hq
 refine wpAny_List_spliced (thn (h pos pins s σ H _ I hq) fun us s1 ⟨xs, H1, I1, r, z, q⟩ => ⟨by rw [<- r.length]; exact z, ?_⟩)
 have hf : H1 s1.heap.objs.size = none := I1.hok.fresh (Nat.le_refl _)
 refine ⟨.ref s1.heap.objs.size, upd H1 s1.heap.objs.size (.lst xs), I1.laid (t':=s1.toks) (fun b u e => Heap.get?_push_of_some _ e) (Nat.le_refl _) ?_, rfl, q _ hf⟩
 exact ⟨z, us, 0, r, Heap.get?_push_size _ rfl⟩
end
noncomputable abbrev Sp := List V -> Hp -> VK -> XK -> Prop
noncomputable abbrev CXT := List Env -> Hp -> Shared -> XK -> Value -> Shared -> Prop
structure Env0 (P : Program) (w : World) (K : PySem.W.Frag) (mg : Str -> Option Value) (base : Heap) (A : Around) (outer : List Env) (s : Shared) (H : Hp) : Prop where
 frames : A.frames = some outer
 mod : Mod K mg base
 bs : ∀ b o, base.get? b = some o -> s.heap.get? b = some o /\ H b = none
 bsz : base.objs.size <= s.heap.objs.size
 funs : s.heap.FunFrames base outer
 frf : ∀ b ∈ frs outer, H b = none
 hok : HOk P w H s.heap
 bare : AllBare s.gens
noncomputable def CE (outer : List Env) (P : Program) (w : World) (H : Hp) (s : Shared) (Q : VK) (u : Value) (s' : Shared) : Prop :=
 ∃ v H', s'.os = s.os /\ AllBare s'.gens /\ Un (frs outer) [] H H' s.heap s'.heap /\ HOk P w H' s'.heap /\ RelV v u /\ Q v H'
noncomputable def CR (CX : CXT) (outer : List Env) (P : Program) (w : World) (H : Hp) (s : Shared) (Q : VK) (E : XK) (r : Result) (s' : Shared) : Prop :=
 match r with
 | .ok (.ret u) => CE outer P w H s Q u s'
 | .ok _ => False
 | .error e => CX outer H s E e s'
structure FnOk (P : Program) (w : World) (K : PySem.W.Frag) (mg : Str -> Option Value) (base : Heap) (CX : CXT) (k : Nat) (f : Addr) (fd : FuncData) (ps : List Str) (sp : Sp) : Prop where
 len : ∀ vs H Q E, sp vs H Q E -> vs.length = ps.length
 run : ∀ (A : Around) (outer : List Env) (s : Shared) (H : Hp) (args : Args) (us : List Value) (vs : List V) (Q : VK) (E : XK), Room k A -> Env0 P w K mg base A outer s H -> BindsTo s fd args (ps.zip us) -> Vals vs us -> sp vs H Q E ->
  codeAny (model P w) A (.call (.ref f) args) (CR CX outer P w H s Q E) s
theorem FnOk.mono {P : Program} {w : World} {K : PySem.W.Frag} {mg : Str -> Option Value} {base : Heap} {CX : CXT} {j k : Nat} {f : Addr} {fd : FuncData} {ps : List Str} {sp : Sp} (F : FnOk P w K mg base CX j f fd ps sp) (h : j <= k) :
  FnOk P w K mg base CX k f fd ps sp := ⟨F.len, fun A outer s H args us vs Q E hr => F.run A outer s H args us vs Q E (hr.mono h)⟩
theorem Env0.make {P : Program} {w : World} {K : PySem.W.Frag} {mg : Str -> Option Value} {base : Heap} {A : Around} {outer : List Env} {s : Shared} {H : Hp} (e : Env0 P w K mg base A outer s H) (C : Addr) (us : List Value) (kw : List (Str × Value)) :
  Env0 P w K mg base (A.under (.builtin "type.__call__" ⟨.ref C :: us, kw⟩)) outer s H := ⟨by first | exact e.frames | (simpa [Around.under, Code.envs, Code.isFrame, pushEnvs] using e.frames), e.mod, e.bs, e.bsz, e.funs, e.frf, e.hok, e.bare⟩
section
variable {X : Cx} {pins : List (Addr × Obj)} {σ : St} {H : Hp} {s s' : Shared}
theorem Inv.env0 (I : Inv X pins σ H s) : Env0 X.prog X.w X.K X.mg X.base X.A X.stack s H :=
 ⟨I.ok.frames, I.ok.mod, I.bs, Nat.le_trans I.ok.bsz I.sz, I.stack, I.stkFree, I.hok, I.bare⟩
theorem Inv.after {Q : VK} {u : Value} (I : Inv X pins σ H s) (h : CE X.stack X.prog X.w H s Q u s') : EP X pins σ Q u s' := by
 obtain ⟨v, H', os, bare, un, hok, r, q⟩ := h
 obtain ⟨hh, g, d, t, os'⟩ := s'
 obtain rfl : os' = s.os := os
 exact ⟨v, H', I.call (h':=hh) (g':=g) (d':=d) (t':=t) (ch:=[]) un hok bare (fun b z => absurd z (by simp)), r, q⟩
end
noncomputable def zil (sp : Sp) (dvs : List V) (E : XK) (t : TA) : TE := fun σ H Q => t σ H fun vs H1 => sp (vs ++ dvs) H1 Q E
noncomputable def zb0 (K : PySem.W.Frag) (fd : FuncData) (ps : List Str) (ds : List Value) : Prop :=
 ∀ (s : Shared) (us : List Value), K.In s.heap -> (us ++ ds).length = ps.length -> BindsTo s fd ⟨us, []⟩ (ps.zip (us ++ ds))
theorem zb0.all {K : PySem.W.Frag} {fd : FuncData} {ps : List Str} (h : ∀ us : List Value, us.length = ps.length -> bindArgs fd ⟨us, []⟩ = pure (ps.zip us)) : zb0 K fd ps [] := fun s us _ hl => by
 rw [List.append_nil] at hl ⊢
 exact .of_eq (h us hl)
noncomputable def zf6 (CX : CXT) (X : Cx) (E : XK) : Prop := ∀ (pins : List (Addr × Obj)) (σ : St) (H : Hp) (s : Shared) (e : Value) (s' : Shared), Inv X pins σ H s -> CX X.stack H s E e s' -> X.xe e s'
section
variable {X : Cx} {CX : CXT} {k : Nat} {f C : Addr} {fd : FuncData} {ps : List Str} {sp : Sp} {dvs : List V} {ds : List Value} {E : XK} {x m : Str} {p pos apos : Pos} {e o : Expr} {es : List Expr} {ta : TE} {t : TA}
theorem zxy {pins : List (Addr × Obj)} {σ : St} {H : Hp} {s : Shared} {Q : VK} {us : List Value} {vs : List V} (F : FnOk X.prog X.w X.K X.mg X.base CX k f fd ps sp) (hr : Room k X.A) (hb : zb0 X.K fd ps ds) (hd : Vals dvs ds) (hx : zf6 CX X E)
  (I : Inv X pins σ H s) (r : Vals vs us) (h : sp (vs ++ dvs) H Q E) : wpAny (model X.prog X.w) X.A (call (.ref f) us) (EP X pins σ Q) X.xe s := by
 have r2 : Vals (vs ++ dvs) (us ++ ds) := r.append hd
 have hl : (us ++ ds).length = ps.length := by rw [<- r2.length]; exact F.len _ _ _ _ h
 refine wpAny_call (codeAny_mono (F.run X.A X.stack s H ⟨us, []⟩ (us ++ ds) (vs ++ dvs) Q E hr I.env0 (hb s us I.kIn hl) r2 h) fun r s' hq => ?_)
 cases r with
 | error e => exact hx pins σ H s e s' I hq
 | ok fl =>
  cases fl with
  | ret u => exact I.after hq
  | next => exact False.elim hq
  | brk => exact False.elim hq
  | cont => exact False.elim hq
theorem zbd (F : FnOk X.prog X.w X.K X.mg X.base CX k f fd ps sp) (hr : Room k X.A) (hg : Gl X x) (hm : X.mg x = some (.ref f)) (hk : PySem.W.keepIn X.K (.ref f) = true) (hb : zb0 X.K fd ps ds) (hd : Vals dvs ds) (hx : zf6 CX X E)
  (ha : PA X (e :: es) t) (hdb : (x == ("__debug__" : Str)) = false := by decide) (he : starEach (e :: es) X.env = (false, eval e X.env) :: starEach es X.env := by rfl) (hpl : (backTo pos (starEach es X.env)).any (·.1) = false := by rfl) :
  PE X (.Call (.Name x p) (e :: es) [] pos) (zil sp dvs E t) := by
 intro pins s σ H Q I h
 refine wpAny_Call_Name_kw (zdl I hg hm ?_ hdb)
 refine PySem.W.callWith_K (h₀:=X.base) I.ok.mod.kin hk (thn (ha pos pins s σ H _ I h) fun us s1 ⟨vs, H1, I1, r, q⟩ => ⟨I1.kIn, ?_⟩) he hpl
 exact zxy F hr hb hd hx I1 r q
structure Mk (K : PySem.W.Frag) (C f : Addr) : Prop where
 makes : PySem.W.makesIn K C = true
 init : PySem.W.findIn K (.ref C) "__init__" = some (some (.ref f))
 fn : PySem.W.isFn K (.ref f) = true
 kp : PySem.W.keepIn K (.ref C) = true
end
noncomputable def PK (X : Cx) (kws : List Keyword) (t : TA) : Prop :=
 ∀ (pos : Pos) (pins : List (Addr × Obj)) (s : Shared) (σ : St) (H : Hp) (Q : List V -> Hp -> Prop), Inv X pins σ H s -> t σ H Q -> wpAny (model X.prog X.w) X.A (evalAll ((backToKw pos (keywordEach kws X.env)).map (·.2))) (AP X pins σ Q) X.xe s
section
variable {X : Cx} {CX : CXT} {k : Nat} {f C : Addr} {fd : FuncData} {ps ks : List Str} {sp : Sp} {E : XK} {x m : Str} {p pos apos kpos : Pos} {e o : Expr} {es : List Expr} {kws : List Keyword} {te ta : TE} {t tk : TA} {nm : Option Str}
theorem zw8 : PK X [] tNil := fun _ _ _ _ H Q I h => wpAny_evalAll_nil ⟨[], H, I, .nil, h⟩
theorem zu8 (ha : PE X e te) (hr : PK X kws t) : PK X (⟨nm, e, kpos⟩ :: kws) (zbe te t) := by
 intro pos pins s σ H Q I h
 show wpAny _ _ (evalAll ((do let v <- eval e X.env; standAt pos; pure v) :: (backToKw pos (keywordEach kws X.env)).map (·.2))) _ _ s
 refine wpAny_evalAll_cons (wpAny_bind (thn (ha pins s σ H _ I h) fun u s1 ⟨x, H1, I1, r1, q1⟩ => wpAny_bind (wpAny_standAt (wpAny_pure ?_))))
 refine thn (hr pos pins s1 σ H1 _ I1 q1) fun us s2 hz9 => ?_
 obtain ⟨xs, H2, I2, r2, q2⟩ := hz9
 exact ⟨x :: xs, H2, I2, .cons r1 r2, q2⟩
structure KBinds (K : PySem.W.Frag) (fd : FuncData) (ps ks : List Str) (g : List Value -> List Value -> List Value) (gV : List V -> List V -> List V) : Prop where
 to : ∀ (s : Shared) (us ws : List Value), K.In s.heap -> (g us ws).length = ps.length -> BindsTo s fd ⟨us, ks.zip ws⟩ (ps.zip (g us ws))
 rel : ∀ {vs : List V} {us : List Value} {zs : List V} {ws : List Value}, Vals vs us -> Vals zs ws -> Vals (gV vs zs) (g us ws)
variable {g : List Value -> List Value -> List Value} {gV : List V -> List V -> List V}
end
structure FnScope (N P : List Str) (sc : Scope) : Prop where
 kind : sc.kind = .function
 co : sc.isCoroutine = false
 gen : sc.isGenerator = false
 nd : N.Nodup
 pre : N.take P.length = P
 par : ∀ x ∈ P, sc.names.lookup x = some .local \/ sc.names.lookup x = some .cell
 nofree : ∀ y ∈ sc.names, y.2 ≠ .free
theorem zj2 {kindOf : Str -> Option NameKind} {x : Str} : ∀ {binds : List (Str × Value)} {m : Str -> Option Value}, (∀ v, (x, v) ∉ binds) -> bindL kindOf binds m x = m x
 | [], _, _ => rfl
 | (n, v) :: r, m, h => by
  unfold bindL
  rw [zj2 fun w hw => h w (List.mem_cons_of_mem _ hw)]
  split
  ·have : x ≠ n := by rintro rfl; exact h v List.mem_cons_self
   simp [this]
  ·rfl
theorem zjk {kindOf : Str -> Option NameKind} {x : Str} : ∀ {binds : List (Str × Value)} {m : Str -> Option Value}, (∀ v, (x, v) ∉ binds) -> bindC kindOf binds m x = m x
 | [], _, _ => rfl
 | (n, v) :: r, m, h => by
  unfold bindC
  rw [zjk fun w hw => h w (List.mem_cons_of_mem _ hw)]
  split
  ·rfl
  ·have : x ≠ n := by rintro rfl; exact h v List.mem_cons_self
   simp [this]
theorem zf4 {kindOf : Str -> Option NameKind} {x : Str} {v : Value} : ∀ {P : List Str} {vs : List Value} {i : Nat} {m : Str -> Option Value}, P.Nodup -> P[i]? = some x -> vs[i]? = some v -> kindOf x = some .local ->
  bindL kindOf (P.zip vs) m x = some v
 | [], _, _, _, _, h, _, _ => by simp at h
 | _ :: _, [], _, _, _, _, h, _ => by simp at h
 | p :: P, w :: vs, 0, m, nd, h1, h2, hk => by
  simp at h1 h2; subst h1; subst h2
  show bindL kindOf ((p, w) :: P.zip vs) m p = _
  unfold bindL
  rw [zj2 fun v hv => (List.nodup_cons.mp nd).1 (List.of_mem_zip hv).1, if_pos hk]
  simp
 | p :: P, w :: vs, i + 1, m, nd, h1, h2, hk => by
  show bindL kindOf ((p, w) :: P.zip vs) m x = _
  unfold bindL
  exact zf4 (i:=i) (List.nodup_cons.mp nd).2 (by simpa using h1) (by simpa using h2) hk
theorem zge {kindOf : Str -> Option NameKind} {x : Str} {v : Value} : ∀ {P : List Str} {vs : List Value} {i : Nat} {m : Str -> Option Value}, P.Nodup -> P[i]? = some x -> vs[i]? = some v -> kindOf x ≠ some .local ->
  bindC kindOf (P.zip vs) m x = some v
 | [], _, _, _, _, h, _, _ => by simp at h
 | _ :: _, [], _, _, _, _, h, _ => by simp at h
 | p :: P, w :: vs, 0, m, nd, h1, h2, hk => by
  simp at h1 h2; subst h1; subst h2
  show bindC kindOf ((p, w) :: P.zip vs) m p = _
  unfold bindC
  rw [zjk fun v hv => (List.nodup_cons.mp nd).1 (List.of_mem_zip hv).1, if_neg hk]
  simp
 | p :: P, w :: vs, i + 1, m, nd, h1, h2, hk => by
  show bindC kindOf ((p, w) :: P.zip vs) m x = _
  unfold bindC
  exact zge (i:=i) (List.nodup_cons.mp nd).2 (by simpa using h1) (by simpa using h2) hk
noncomputable def start (N : List Str) (vs : List V) : St := vs.map some ++ List.replicate (N.length - vs.length) none
noncomputable def cxOf (CX : CXT) (P : Program) (w : World) (K : PySem.W.Frag) (mg : Str -> Option Value) (base : Heap) (N : List Str) (qual : Str) (scope : Scope) (f : Addr) (cd : Value) (A : Around) (outer : List Env) (s : Shared) (H : Hp) (E : XK) : Cx where
 prog := P
 w := w
 K := K
 mg := mg
 base := base
 A := A.deeper (envOfC qual scope s.heap.objs.size f cd)
 N := N
 s₀ := s
 H₀ := H
 env := envOfC qual scope s.heap.objs.size f cd
 outer := outer
 stack := envOfC qual scope s.heap.objs.size f cd :: outer
 ex := []
 calm := true
 fn := fun _ => true
 pn := []
 xe := fun e s' => wpAny (model P w) (A.deeper (envOfC qual scope s.heap.objs.size f cd)) (leaving (envOfC qual scope s.heap.objs.size f cd) e) (fun _ s'' => CX outer H s E e s'') (fun e' s'' => CX outer H s E e' s'') s'
theorem zfs {sc : Scope} {n : Nat} {x : Str} (h : sc.names.lookup x = some .cell) : ∃ c, (cellsFrom n sc.names []).lookup x = some c := by
 have q := PySem.W.cellsFrom_some sc.names n [] (.inl h)
 exact Option.isSome_iff_exists.mp q
theorem zqg {CX : CXT} {P : Program} {w : World} {K : PySem.W.Frag} {mg : Str -> Option Value} {base : Heap} {N ps : List Str} {qual : Str} {scope : Scope} {f : Addr} {cd : Value} {A : Around} {outer : List Env} {s s1 : Shared} {H : Hp} {E : XK} {us : List Value} {vs : List V}
  (S : FnScope N ps scope) (hd : A.handled = none) (e0 : Env0 P w K mg base A outer s H) (hl : vs.length = ps.length) (r : Vals vs us)
  (x : InCallC s s.heap.objs.size (bindL (envOfC qual scope s.heap.objs.size f cd).kindOf (ps.zip us) fun _ => none) (cellsFrom (s.heap.objs.size + 1) scope.names []) (bindC (envOfC qual scope s.heap.objs.size f cd).kindOf (ps.zip us) fun _ => none) s1) :
  Inv (cxOf CX P w K mg base N qual scope f cd A outer s H E) [] (start N vs) H s1 := by
 have hpl : ps.length <= N.length := by have := congrArg List.length S.pre; rw [List.length_take] at this; omega
 obtain ⟨h1, tk, rfl, hk⟩ := x.done
 have noA : ∀ b : Addr, b ∉ (cxOf CX P w K mg base N qual scope f cd A outer s H E).ex := fun b z => absurd (show b ∈ ([] : List Addr) from z) (by simp)
 refine ⟨⟨e0.mod, S.kind, rfl, rfl, Nat.le_refl _, fun y z c h1 h2 => ?_, fun y hy => ?_, fun y c _ h => ?_, fun _ => hd, Around.frames_deeper e0.frames, .inr ⟨rfl, rfl⟩, fun b z => absurd z (noA b), e0.bs, e0.bsz, fun b _ _ => noA b, fun b z => absurd z (noA b), e0.funs, e0.frf⟩,
  rfl, e0.bare, Un.kept hk, ⟨_, x.toInCall.ns, fun i y v h1 h2 h3 => ?_⟩, fun y c h => ⟨_, x.cell y c h⟩, e0.hok.fresh (Nat.le_refl _), fun y c h => ?_, fun p hp => absurd (show p ∈ ([] : List (Addr × Obj)) from hp) (by simp), e0.hok.kept hk, ?_⟩
 ·exact name_of_addr x.apart (PySem.mem_of_lookup h1) (PySem.mem_of_lookup h2)
 ·have hy : scope.names.lookup y = some .cell \/ scope.names.lookup y = some .free := hy
  rcases hy with hy | hy
  ·exact zfs hy
  ·exact absurd rfl (S.nofree _ (PySem.mem_of_lookup hy))
 ·exact Nat.le_of_lt (x.above y c (PySem.mem_of_lookup h))
 ·have hi : i < vs.length := by
   unfold start at h2
   by_cases hi : i < vs.length
   ·exact hi
   ·rw [List.getElem?_append_right (by simpa using hi)] at h2
    rw [List.getElem?_replicate] at h2
    split at h2 <;> cases h2
  have ha : vs[i]? = some v := by
   unfold start at h2
   rw [List.getElem?_append_left (by simpa using hi), List.getElem?_map] at h2
   cases e : vs[i]? with
   | none => rw [e] at h2; cases h2
   | some a => rw [e] at h2; cases h2; rfl
  obtain ⟨u, hu, rv⟩ := r.get ha
  have hp : ps[i]? = some y := by
   rw [<- S.pre, List.getElem?_take_of_lt (by omega)]; exact h1
  have ndP : ps.Nodup := by rw [<- S.pre]; exact S.nd.sublist (List.take_sublist _ _)
  refine ⟨u, rv, ?_⟩
  rcases S.par y (List.mem_of_getElem? hp) with k | k
  ·exact .inl ⟨k, zf4 ndP hp hu k⟩
  ·obtain ⟨c, e⟩ := zfs (n:=s.heap.objs.size + 1) k
   refine .inr ⟨.inl k, c, e, ?_⟩
   have q := x.cell y c e
   rw [zge ndP hp hu (by show scope.names.lookup y ≠ _; rw [k]; decide)] at q
   exact q
 ·exact e0.hok.fresh (Nat.le_of_lt (x.above y c (PySem.mem_of_lookup h)))
 ·unfold start
  show _ = N.length
  rw [List.length_append, List.length_map, List.length_replicate]
  omega
theorem zw5 {CX : CXT} {P : Program} {w : World} {K : PySem.W.Frag} {mg : Str -> Option Value} {base : Heap} {k : Nat} {f : Addr} {name qual : Str} {params : Arguments} {body : List Stmt} {scope : Scope} {dV kV doc pm cdv ct oc : Value} {an od : Option Addr}
  {osl : Array (Option Value)} {N ps : List Str} {sp : Sp} (lk : K.lookup f = some ⟨oc, od, .func (PySem.W.fnOf name qual params body scope dV kV doc pm an cdv ct), osl⟩) (hcd : PySem.W.codeIn K cdv qual = true) (S : FnScope N ps scope)
  (len : ∀ vs H Q E, sp vs H Q E -> vs.length = ps.length)
  (hbody : ∀ (A : Around) (outer : List Env) (s : Shared) (H : Hp) (vs : List V) (Q : VK) (E : XK), Room k (A.deeper (envOfC qual scope s.heap.objs.size f cdv)) -> sp vs H Q E ->
   ∃ t, PSs (cxOf CX P w K mg base N qual scope f cdv A outer s H E) body t /\ t { nx := fun _ H' => Q .non H', rt := Q } (start N vs) H) :
  FnOk P w K mg base CX (k + 1) f (PySem.W.fnOf name qual params body scope dV kV doc pm an cdv ct) ps sp := by
 refine ⟨len, fun A outer s H args us vs Q E hr e0 hb r hsp => ?_⟩
 have hl := len _ _ _ _ hsp
 have KX : K.In s.heap := e0.mod.kin.keeps fun b o e => (e0.bs b o e).1
 have lim : s.heap.NoLimit := e0.mod.nolimit.keeps fun b o e => (e0.bs b o e).1
 have hkind : ∀ y ∈ ps.zip us, scope.names.lookup y.1 = some .local \/ (scope.names.lookup y.1 = some .cell /\ ((cellsFrom (s.heap.objs.size + 1) scope.names []).lookup y.1).isSome = true) := fun ⟨n, v⟩ hy => by
  rcases S.par n (List.of_mem_zip hy).1 with q | q
  ·exact .inl q
  ·exact .inr ⟨q, PySem.W.cellsFrom_some _ _ _ (.inl q)⟩
 refine codeAny_call_function hr.depth (KX _ _ lk) rfl S.co S.gen rfl (PySem.W.codeRec_of KX hcd) (hb _ _ _ _ ?_)
 refine wpAny_newFunctionEnv_cells S.kind hkind fun env he s1 x => ?_
 subst he
 refine ⟨lim.keeps x.toInCall.keep, codeAny_func ?_⟩
 obtain ⟨t, ht, hq⟩ := hbody A outer s H vs Q E (hr.deeper _) hsp
 have I : Inv (cxOf CX P w K mg base N qual scope f cdv A outer s H E) [] (start N vs) H s1 := zqg S hr.hd e0 hl r x
 refine wpAny_mono (ht [] s1 (start N vs) H _ I hq) (fun fl s' hs => ?_) fun e s' hs => hs
 have fin : ∀ {σ' : St} {H' : Hp} {v : V} {u : Value}, Inv (cxOf CX P w K mg base N qual scope f cdv A outer s H E) [] σ' H' s' -> RelV v u -> Q v H' -> CE outer P w H s Q u s' :=
  fun {σ' H' v u} J rv q => ⟨v, H', J.os, J.bare, J.base, J.hok, rv, q⟩
 cases fl with
 | ret u =>
  obtain ⟨v, σ', H', J, rv, q⟩ := hs
  exact fin J rv q
 | next =>
  obtain ⟨σ', H', J, q⟩ := hs
  exact fin (v:=V.non) (u:=Value.none) J rfl q
 | brk =>
  obtain ⟨_, _, _, q⟩ := hs
  exact False.elim q
 | cont =>
  obtain ⟨_, _, _, q⟩ := hs
  exact False.elim q
end L2
namespace L2
open PySem PySem.Spec PyProof.Rows
section
variable {X : Cx} {x : Str} {p pos : Pos} {e : Expr} {es : List Expr} {t : TA} {id T : String} {r : List V -> Hp -> VK -> Prop}
noncomputable def tCB (r : List V -> Hp -> VK -> Prop) (t : TA) : TE := fun σ H Q => t σ H fun vs H1 => r vs H1 Q
theorem zau (hc : zca X (.builtin id) r) (hg : Gl X x) (hm : X.mg x = none) (hv : bootBuiltins x = some (.builtin id)) (ha : PA X (e :: es) t) (hn : x ≠ "__name__" := by decide) (hdb : (x == ("__debug__" : Str)) = false := by decide)
  (he : starEach (e :: es) X.env = (false, eval e X.env) :: starEach es X.env := by rfl) (hpl : (backTo pos (starEach es X.env)).any (·.1) = false := by rfl) : PE X (.Call (.Name x p) (e :: es) [] pos) (tCB r t) := by
 intro pins s σ H Q I h
 refine wpAny_Call_Name_kw (zkc I hg hm hv ?_ hn hdb)
 exact PyProof.Rows.callWith_builtin1 (thn (ha pos pins s σ H _ I h) fun us s1 ⟨vs, H1, I1, r1, q1⟩ => hc pins s1 σ H1 vs us Q I1 r1 q1) he hpl
theorem zeq (hc : zca X (.type T) r) (hg : Gl X x) (hm : X.mg x = none) (hv : bootBuiltins x = some (.type T)) (ha : PA X (e :: es) t) (hn : x ≠ "__name__" := by decide) (hdb : (x == ("__debug__" : Str)) = false := by decide)
  (he : starEach (e :: es) X.env = (false, eval e X.env) :: starEach es X.env := by rfl) (hpl : (backTo pos (starEach es X.env)).any (·.1) = false := by rfl) : PE X (.Call (.Name x p) (e :: es) [] pos) (tCB r t) := by
 intro pins s σ H Q I h
 refine wpAny_Call_Name_kw (zkc I hg hm hv ?_ hn hdb)
 exact PyProof.Rows.callWith_type1 (thn (ha pos pins s σ H _ I h) fun us s1 ⟨vs, H1, I1, r1, q1⟩ => hc pins s1 σ H1 vs us Q I1 r1 q1) he hpl
end
end L2
namespace HT
open PySem PyProof.Rows
section
open PySem.SeqAt
open PySem.AutoSeq1 (wpAny_loadPart')
open PySem.MeetsSeq PySem.MeetsSeq2 PySem.MeetsSeq3
end
section
variable {prog : Program} {w : World} {A : Around} {E : Value -> Shared -> Prop} {s : Shared}
noncomputable def sIx (n d : Nat) : Option Int -> Nat
 | none => d
 | some v => if v < 0 then (v + (n : Int)).toNat else min v.toNat n
end
end HT
namespace L2
open PySem PySem.Spec PyProof.Rows
noncomputable abbrev TO := St -> Hp -> (Option Int -> Hp -> Prop) -> Prop
noncomputable def PO (X : Cx) (e : Option Expr) (t : TO) : Prop :=
 ∀ (pins : List (Addr × Obj)) (s : Shared) (σ : St) (H : Hp) (Q : Option Int -> Hp -> Prop), Inv X pins σ H s -> t σ H Q ->
  wpAny (model X.prog X.w) X.A (evalPart e X.env) (fun u s' => ∃ o H', Inv X pins σ H' s' /\ IsPart u o /\ Q o H') X.xe s
noncomputable def zpc : TO := fun _ H Q => Q none H
noncomputable def zyf (t : TE) : TO := fun σ H Q => t σ H fun x H1 => ∃ i, x = .int i /\ Q (some i) H1
section
variable {X : Cx} {e : Expr} {te : TE} {lo hi : Option Expr} {tl th : TO} {pos p2 : Pos}
theorem zuz : PO X none zpc := by
 intro pins s σ H Q I h
 rw [evalPart_none]
 exact wpAny_pure ⟨none, H, I, .none, h⟩
theorem zlg (h : PE X e te) : PO X (some e) (zyf te) := by
 intro pins s σ H Q I hw
 rw [evalPart_some]
 refine thn (h pins s σ H _ I hw) fun u s1 hz9 => ?_
 obtain ⟨x, H1, I1, r1, q1⟩ := hz9
 obtain ⟨i, rfl, q⟩ := q1
 obtain ⟨t, rfl⟩ := r1
 exact ⟨some i, H1, I1, .int i t, q⟩
noncomputable def SlR (X : Cx) (r : V -> Option Int -> Option Int -> Hp -> VK -> Prop) : Prop :=
 ∀ (pins : List (Addr × Obj)) (s : Shared) (σ : St) (H : Hp) (x : V) (v vl vu : Value) (lo hi : Option Int) (sl : Addr) (Q : VK), Inv X pins σ H s -> RelV x v -> s.heap.IsSliceOf sl vl vu .none -> IsPart vl lo -> IsPart vu hi -> r x lo hi H Q ->
  ∃ T id, typeLookup (.type T) "__getitem__" = pure (some (.builtin id)) /\ s.TypeIs v T /\ wpAny (model X.prog X.w) X.A (getItem v (.ref sl)) (EP X pins σ Q) X.xe s
noncomputable def tSl (r : V -> Option Int -> Option Int -> Hp -> VK -> Prop) (te : TE) (tl th : TO) : TE := fun σ H Q => te σ H fun x H1 => tl σ H1 fun l H2 => th σ H2 fun u H3 => r x l u H3 Q
theorem zma {r : V -> Option Int -> Option Int -> Hp -> VK -> Prop} (hr : SlR X r) (he : PE X e te) (hl : PO X lo tl) (hu : PO X hi th) : PE X (.Subscript e (.Slice lo hi none p2) pos) (tSl r te tl th) := by
 intro pins s σ H Q I h
 refine Subscript_ (thn (he pins s σ H _ I h) fun v s1 hz9 => ?_)
 obtain ⟨x, H1, I1, r1, q1⟩ := hz9
 refine wpAny_Slice (thn (hl pins s1 σ H1 _ I1 q1) fun vl s2 ⟨l, H2, I2, pl, q2⟩ => thn (hu pins s2 σ H2 _ I2 q2) fun vu s3 hz9 => ?_)
 obtain ⟨u, H3, I3, pu, q3⟩ := hz9
 rw [evalPart_none]
 refine wpAny_pure ?_
 have I4 : Inv X pins σ H3 { s3 with heap := s3.heap.push { cls := .type "slice", data := .fields #[vl, vu, .none] } } := I3.kept (t':=s3.toks) fun b ob q => Heap.get?_push_of_some _ q
 obtain ⟨T, id, hT, ht, hg⟩ := hr pins { s3 with heap := s3.heap.push { cls := .type "slice", data := .fields #[vl, vu, .none] } } σ H3 x v vl vu l u s3.heap.objs.size Q I4 r1 (Heap.IsSliceOf.new ..) pl pu q3
 show wpAny (model X.prog X.w) X.A (subscriptTail e (.Slice lo hi none p2) v (.ref s3.heap.objs.size)) (EP X pins σ Q) X.xe { s3 with heap := s3.heap.push { cls := .type "slice", data := .fields #[vl, vu, .none] } }
 exact tail_any (ops:=[.ref s3.heap.objs.size, v]) ht hT hg (by with_unfolding_all rfl)
noncomputable def cutV (xs : List V) (lo hi : Option Int) : List V := (xs.drop (HT.sIx xs.length 0 lo)).take (HT.sIx xs.length xs.length hi - HT.sIx xs.length 0 lo)
theorem zk3 (xs : List V) (lo hi : Option Int) : (cutV xs lo hi).length <= xs.length := by
 unfold cutV
 rw [List.length_take, List.length_drop]
 omega
noncomputable def rCatT (K : PySem.W.Frag) : R2 := fun x y H Q => ∃ a b xs ys, x = .ref a /\ y = .ref b /\ SqT K H a xs /\ SqT K H b ys /\ xs ≠ [] /\ xs.length + ys.length <= sizeLine /\
 (ys = [] -> Q (.ref a) H) /\ (ys ≠ [] -> ∀ p, H p = none -> Q (.ref p) (upd H p (.tup (xs ++ ys))))
end
end L2
namespace L2
open PySem PySem.Spec PyProof.Rows
noncomputable def ixN (n : Nat) (i : Int) : Option Nat := if 0 <= i then (if i < n then some i.toNat else none) else if -(n : Int) <= i then some (i + n).toNat else none
noncomputable def atI {α : Type} (xs : List α) (i : Int) : Option α := (ixN xs.length i).bind fun j => xs[j]?
theorem zvo {n : Nat} {i : Int} {j : Nat} (h : ixN n i = some j) : seqIndex? i n = some j /\ j < n /\ -(n : Int) <= i /\ i < n := by
 unfold ixN at h
 by_cases h0 : 0 <= i
 ·rw [if_pos h0] at h
  by_cases h1 : i < n
  ·rw [if_pos h1] at h
   have e : i.toNat = j := Option.some.inj h
   exact ⟨by rw [seqIndex_of h0 h1, e], by omega, by omega, h1⟩
  ·rw [if_neg h1] at h; cases h
 ·rw [if_neg h0] at h
  by_cases h1 : -(n : Int) <= i
  ·rw [if_pos h1] at h
   have e : (i + n).toNat = j := Option.some.inj h
   exact ⟨by rw [seqIndex_neg (by omega) h1, e], by omega, h1, by omega⟩
  ·rw [if_neg h1] at h; cases h
theorem zpm {α : Type} {xs : List α} {i : Int} {v : α} (h : atI xs i = some v) : ∃ j, seqIndex? i xs.length = some j /\ xs[j]? = some v /\ j < xs.length /\ -(xs.length : Int) <= i /\ i < xs.length := by
 unfold atI at h
 cases e : ixN xs.length i with
 | none => rw [e] at h; cases h
 | some j =>
  rw [e] at h
  obtain ⟨h1, h2, h3, h4⟩ := zvo e
  exact ⟨j, h1, h, h2, h3, h4⟩
theorem zk6 {α : Type} {xs : List α} {j : Nat} {v : α} (h : xs[j]? = some v) : atI xs (j : Int) = some v := by
 have hj : j < xs.length := (List.getElem?_eq_some_iff.mp h).1
 have e : ixN xs.length (j : Int) = some j := by
  unfold ixN
  rw [if_pos (by omega), if_pos (by omega)]; simp
 unfold atI; rw [e]; exact h
noncomputable def zuy (b : Expr) : Prop := ∀ o i, subscripted b false o i = operate [o, i] (getItem o i)
noncomputable def IxR (X : Cx) (r : R2) : Prop :=
 ∀ (value slice : Expr) (pins : List (Addr × Obj)) (s : Shared) (σ : St) (H : Hp) (x y : V) (v u : Value) (Q : VK), Inv X pins σ H s -> RelV x v -> RelV y u -> r x y H Q ->
  subscripted slice false v u = operate [v, u] (getItem v u) -> wpAny (model X.prog X.w) X.A (subscriptTail value slice v u) (EP X pins σ Q) X.xe s
noncomputable def MtR (X : Cx) (id : String) (r : V -> List V -> Hp -> VK -> Prop) : Prop :=
 ∀ (pins : List (Addr × Obj)) (s : Shared) (σ : St) (H : Hp) (x : V) (xs : List V) (v : Value) (us : List Value) (Q : VK), Inv X pins σ H s -> RelV x v -> Vals xs us -> r x xs H Q ->
  wpAny (model X.prog X.w) X.A (call (.builtin id) (v :: us)) (EP X pins σ Q) X.xe s
section
variable {X : Cx} {a b : Expr} {ta tb : TE} {pos : Pos}
theorem zbk {r : R2} (hr : IxR X r) (ha : PE X a ta) (hb : PE X b tb) (hs : zuy b) : PE X (.Subscript a b pos) (tOp r ta tb) := by
 intro pins s σ H Q I h
 exact Subscript_ (binT ha hb I h fun v u s2 x y H2 I2 rx ry q => hr a b pins s2 σ H2 x y v u Q I2 rx ry q (hs _ _))
noncomputable def rIxL (K : PySem.W.Frag) : R2 := fun x y H Q => ∃ p xs i v, x = .ref p /\ y = .int i /\ SqL K H p xs /\ atI xs i = some v /\ Q v H
noncomputable def rIxS : R2 := fun x y H Q => ∃ z i c, x = .str z /\ y = .int i /\ z.length <= sizeLine /\ atI z.cps.toList i = some c /\ Q (.str ⟨#[c]⟩) H
theorem zar : IxR X (rIxL X.K) := by
 intro value slice pins s σ H x y v u Q I rx ry h hs
 obtain ⟨p, xs, i, z, rfl, rfl, hq, he, q⟩ := h
 cases rx
 obtain ⟨t, rfl⟩ := ry
 obtain ⟨its, r, pl, hz⟩ := I.list hq
 obtain ⟨j, h1, h2, h3, h4, h5⟩ := zpm he
 obtain ⟨w, ew, rw'⟩ := r.get h2
 have hl := r.length
 have hn := zmw
 have fin : EP X pins σ Q w s := ⟨z, H, I, rw', q⟩
 by_cases h0 : 0 <= i
 ·have hj : i.toNat = j := by
   rw [seqIndex_of h0 h5] at h1
   exact Option.some.inj h1
  exact item_listR pl.isList h0 (by omega) (by rw [hj]; simpa using ew) fin hs
 ·have hj : (i + (its.toArray.size : Int)).toNat = j := by
   rw [seqIndex_neg (by omega) h4] at h1
   rw [List.size_toArray, <- hl]
   exact Option.some.inj h1
  exact subscriptTail_builtinR (x:=w) pl.isList.typeIs slot_list_getitem.lookup
   (wpAny_getItem_list_neg (Q:=fun r s' => r = w /\ EP X pins σ Q r s') pl.isList (by omega) (by rw [List.size_toArray] <;> omega) (by omega) (by rw [hj]; simpa using ew) ⟨rfl, fin⟩) hs
theorem zl8 : IxR X rIxS := by
 intro value slice pins s σ H x y v u Q I rx ry h hs
 obtain ⟨z, i, c, rfl, rfl, hz, he, q⟩ := h
 obtain ⟨t, rfl⟩ := rx
 obtain ⟨t', rfl⟩ := ry
 obtain ⟨j, h1, h2, h3, h4, h5⟩ := zpm he
 have hl : z.cps.toList.length = z.length := by simp [Str.length]
 rw [hl] at h1 h4 h5
 have hn := zmw
 exact tail_any (typeIs_str s z t) slot_str_getitem.lookup (getItem_str (c:=c) (by
  have e1 : decide (i < -(2 ^ 63 : Int)) = false := decide_eq_false (by omega)
  have e2 : decide (i ≥ 2 ^ 63) = false := decide_eq_false (by omega)
  rw [e1, e2, Bool.or_false]) (by rw [h1]; simpa using h2) ⟨.str ⟨#[c]⟩, H, I.tok _, ⟨_, rfl⟩, q⟩) hs
theorem zjw (lo hi : Option Int) (n : Nat) : (sliceBounds lo hi none n).1 = ((HT.sIx n 0 lo : Nat) : Int) /\ (sliceBounds lo hi none n).2.1 = ((HT.sIx n n hi : Nat) : Int) /\ (sliceBounds lo hi none n).2.2 = 1 := by
 refine ⟨?_, ?_, rfl⟩
 ·cases lo with
  | none => simp [sliceBounds, HT.sIx]
  | some i =>
   simp only [sliceBounds, HT.sIx, Option.getD_none, show (1 : Int) > 0 by decide, if_true]
   by_cases h : i < 0
   ·simp only [h, if_true] <;> omega
   ·simp only [h, if_false] <;> omega
 ·cases hi with
  | none => simp [sliceBounds, HT.sIx]
  | some i =>
   simp only [sliceBounds, HT.sIx, Option.getD_none, show (1 : Int) > 0 by decide, if_true]
   by_cases h : i < 0
   ·simp only [h, if_true] <;> omega
   ·simp only [h, if_false] <;> omega
theorem zi7 (its : List Value) (lo hi : Option Int) : slicePick its.toArray lo hi none = ((its.drop (HT.sIx its.length 0 lo)).take (HT.sIx its.length its.length hi - HT.sIx its.length 0 lo)).toArray := by
 obtain ⟨h1, h2, h3⟩ := zjw lo hi its.toArray.size
 unfold slicePick
 rw [h1, h2, h3]
 simp only [sliceRange_one, pick_run, List.size_toArray] <;> rfl
noncomputable def rSlL (K : PySem.W.Frag) : V -> Option Int -> Option Int -> Hp -> VK -> Prop := fun x lo hi H Q => ∃ a xs, x = .ref a /\ SqL K H a xs /\ ∀ p, H p = none -> Q (.ref p) (upd H p (.lst (cutV xs lo hi)))
theorem zrl : SlR X (rSlL X.K) := by
 intro pins s σ H x v vl vu lo hi sl Q I rx hs pl pu h
 obtain ⟨a, xs, rfl, hx, q⟩ := h
 cases rx
 obtain ⟨its, r, ht, hz⟩ := I.list hx
 have hlen := r.length
 refine ⟨"list", _, slot_list_getitem.lookup, ht.isList.typeIs, ?_⟩
 refine wpAny_getItem_list_slice ht.isList hs pl pu .none (by simp) ?_ (by rw [List.size_toArray] <;> omega)
 rw [zi7, <- hlen]
 refine ⟨.ref s.heap.objs.size, _, I.laid (t':=s.toks) (o:=.lst (cutV xs lo hi)) (fun b ob q => Heap.get?_push_of_some _ q) (Nat.le_refl _) ?_, rfl, q _ (I.hok.fresh (Nat.le_refl _))⟩
 exact ⟨Nat.le_trans (zk3 xs lo hi) hz, _, 0, (r.drop (HT.sIx xs.length 0 lo)).take (HT.sIx xs.length xs.length hi - HT.sIx xs.length 0 lo), Heap.get?_push_size _ rfl⟩
theorem zcs : zca X (.builtin "len") (fun xs H Q => ∃ p ys, xs = [.ref p] /\ (SqL X.K H p ys \/ SqT X.K H p ys) /\ Q (.int ys.length) H) := by
 intro pins s σ H xs us Q I r h
 obtain ⟨p, ys, rfl, hq, q⟩ := h
 obtain ⟨u, rfl, rx⟩ := zfo r
 cases rx
 have hn := zmw
 rcases hq with hq | hq
 ·obtain ⟨its, r', pl, hz⟩ := I.list hq
  have hlen := r'.length
  exact Calls.call_len_list pl.isList (by simp only [List.size_toArray] <;> omega) ⟨.int ys.length, H, I.tok _, ⟨s.toks + 1, by rw [List.size_toArray, hlen]⟩, q⟩
 ·obtain ⟨its, r', pl, hz⟩ := I.tuple hq
  have hlen := r'.length
  exact len_tuple pl (by simp only [List.size_toArray] <;> omega) ⟨.int ys.length, H, I.tok _, ⟨s.toks + 1, by rw [List.size_toArray, hlen]⟩, q⟩
theorem zfg : zca X (.builtin "len") (fun xs H Q => ∃ z, xs = [.str z] /\ z.length <= sizeLine /\ Q (.int z.length) H) := by
 intro pins s σ H xs us Q I r h
 obtain ⟨z, rfl, hz, q⟩ := h
 obtain ⟨u, rfl, t, rfl⟩ := zfo r
 have hn := zmw
 exact len_str (by omega) ⟨.int z.length, H, I.tok _, ⟨_, rfl⟩, q⟩
theorem zje : zca X (.type "list") (fun xs H Q => ∃ p ys, xs = [.ref p] /\ (SqL X.K H p ys \/ SqT X.K H p ys) /\ ∀ l, H l = none -> Q (.ref l) (upd H l (.lst ys))) := by
 intro pins s σ H xs us Q I r h
 obtain ⟨p, ys, rfl, hq, q⟩ := h
 obtain ⟨u, rfl, rx⟩ := zfo r
 cases rx
 have fin : ∀ (its : List Value), Vals ys its -> ys.length <= sizeLine -> ∀ (h' : Heap) (c' : Nat), (∀ b o', s.heap.get? b = some o' -> h'.get? b = some o') ->
   h'.get? s.heap.objs.size = some { cls := .type "list", dict := none, data := .seq its.toArray c', slots := #[] } -> EP X pins σ Q (.ref s.heap.objs.size) { s with heap := h' } := fun its r' hz h' c' kp e =>
  ⟨.ref s.heap.objs.size, _, I.laid (t':=s.toks) kp (Nat.le_refl _) (show zc2 X.prog X.w _ h' _ (.lst ys) from ⟨hz, its, c', r', e⟩), rfl, q _ (I.hok.fresh (Nat.le_refl _))⟩
 rcases hq with hq | hq
 ·obtain ⟨its, r', pl, hz⟩ := I.list hq
  have hlen := r'.length
  obtain ⟨o, ho, hc, n, hd⟩ := pl.isList
  exact call_list_seq p (.inl rfl) ho hc hd (fun h' c' kp e => fin its r' hz h' c' kp e) (by simp only [List.size_toArray] <;> omega)
 ·obtain ⟨its, r', pl, hz⟩ := I.tuple hq
  have hlen := r'.length
  obtain ⟨o, ho, hc, n, hd⟩ := pl
  exact call_list_seq p (.inr rfl) ho hc hd (fun h' c' kp e => fin its r' hz h' c' kp e) (by simp only [List.size_toArray] <;> omega)
theorem zhz : zca X (.type "tuple") (fun xs H Q => ∃ p ys, xs = [.ref p] /\ ((SqL X.K H p ys /\ ∀ l, H l = none -> Q (.ref l) (upd H l (.tup ys))) \/ (SqT X.K H p ys /\ Q (.ref p) H))) := by
 intro pins s σ H xs us Q I r h
 obtain ⟨p, ys, rfl, h⟩ := h
 obtain ⟨u, rfl, rx⟩ := zfo r
 cases rx
 rcases h with ⟨hq, q⟩ | ⟨hq, q⟩
 ·obtain ⟨its, r', pl, hz⟩ := I.list hq
  have hlen := r'.length
  refine call_tuple_list pl.isList (fun h' kp => ?_) (by simp only [List.size_toArray] <;> omega)
  have I1 : Inv X pins σ H { s with heap := h' } := I.kept (t':=s.toks) kp
  have I2 : Inv X pins σ (upd H h'.objs.size (.tup ys)) { s with heap := h'.push { cls := .type "tuple", data := .seq its.toArray } } :=
   I1.laid (t':=s.toks) (fun b o e => Heap.get?_push_of_some _ e) (Nat.le_refl _) (show zc2 X.prog X.w _ _ _ (.tup ys) from ⟨hz, its, r', IsTup.new _ _⟩)
  exact ⟨.ref h'.objs.size, _, I2, rfl, q _ (I1.hok.fresh (Nat.le_refl _))⟩
 ·obtain ⟨its, r', pl, hz⟩ := I.tuple hq
  exact call_tuple_same pl ⟨.ref p, H, I, rfl, q⟩
noncomputable def tyV (K : PySem.W.Frag) (T : String) (x : V) (H : Hp) : Prop := match x with
 | .str _ => T = "str"
 | .int _ => T = "int"
 | .ref p => (T = "list" /\ ∃ xs, SqL K H p xs) \/ (T = "tuple" /\ ∃ o, K.lookup p = some o /\ o.cls = .type "tuple" /\ o.dict = none) \/
   (T = "dict" /\ ((∃ kvs, H p = some (.dK kvs)) \/ ∃ kvs, H p = some (.dT kvs))) \/ (T = "set" /\ ∃ S n, H p = some (.set S n))
 | _ => False
theorem zxu {pins : List (Addr × Obj)} {σ : St} {H : Hp} {s : Shared} {T : String} {x : V} {v : Value} (I : Inv X pins σ H s) (r : RelV x v) (ty : tyV X.K T x H) :
  s.TypeIs v T /\ ∀ a, v = .ref a -> ∃ ob, s.heap.get? a = some ob /\ ob.dict = none := by
 cases x with
 | str z =>
  obtain ⟨t, rfl⟩ := r
  cases (show T = "str" from ty)
  exact ⟨typeIs_str s z t, fun _ e => nomatch e⟩
 | int i =>
  obtain ⟨t, rfl⟩ := r
  cases (show T = "int" from ty)
  exact ⟨typeIs_int s i t, fun _ e => nomatch e⟩
 | ref p =>
  cases r
  rcases ty with ⟨rfl, xs, hq⟩ | ⟨rfl, o, hk, hc, hd⟩ | ⟨rfl, hk⟩ | ⟨rfl, S, n, hk⟩
  ·obtain ⟨its, _, pl, _⟩ := I.list hq
   refine ⟨pl.isList.typeIs, fun a e => ?_⟩
   cases e
   obtain ⟨o, n, e, c, hd, _⟩ := pl
   exact ⟨o, e, hd⟩
  ·refine ⟨⟨o, I.kIn p o hk, hc⟩, fun a e => ?_⟩
   cases e
   exact ⟨o, I.kIn _ o hk, hd⟩
  ·have z : ∃ o, s.heap.get? p = some o /\ o.ExactDict := by
    rcases hk with ⟨kvs, hk⟩ | ⟨kvs, hk⟩
    ·obtain ⟨_, _, _, _, o, _, _, e, ex, _⟩ := I.hok p _ hk
     exact ⟨o, e, ex⟩
    ·obtain ⟨_, _, _, _, o, _, _, e, ex, _⟩ := I.hok p _ hk
     exact ⟨o, e, ex⟩
   obtain ⟨o, e, ex⟩ := z
   refine ⟨⟨o, e, ex.1⟩, fun a e2 => ?_⟩
   cases e2
   exact ⟨o, e, ex.2.1⟩
  ·obtain ⟨o, _, _, _, e, ex, _⟩ := I.hok p _ hk
   refine ⟨⟨o, e, ex.1⟩, fun a e2 => ?_⟩
   cases e2
   exact ⟨o, e, ex.2.1⟩
 | _ => exact False.elim ty
noncomputable def tBM (K : PySem.W.Frag) (T : String) (r : V -> List V -> Hp -> VK -> Prop) (to : TE) (t : TA) : TE := fun σ H Q => to σ H fun x H1 => tyV K T x H1 /\ t σ H1 fun xs H2 => r x xs H2 Q
variable {o e : Expr} {es : List Expr} {to : TE} {t : TA} {name : Str} {apos cpos : Pos} {T id : String} {r : V -> List V -> Hp -> VK -> Prop}
theorem zfn (pa : PlainAttrs T) (slot : Slot T name id) (hty : typeOf (.builtin id) = pure (.type "method_descriptor")) (hm : MtR X id r) (ho : PE X o to) (ha : PA X (e :: es) t)
  (hbase : attributeBase o name X.env (eval o X.env) = eval o X.env := by rfl)
  (hfew : ((backTo cpos (starEach (e :: es) X.env)).all (fun x => !x.1) && (backToKw cpos (keywordEach [] X.env)).all (fun x => x.1.isSome)
   && decide ((e :: es).length + ([] : List Keyword).length + (if ([] : List Keyword).isEmpty then 0 else 1) < 30)) = true := by rfl)
  (hline : (apos.endLine == cpos.line) = true := by rfl) (hs : starEach (e :: es) X.env = (false, eval e X.env) :: starEach es X.env := by rfl) (hplain : (backTo cpos (starEach es X.env)).any (·.1) = false := by rfl) :
  PE X (.Call (.Attribute o name apos) (e :: es) [] cpos) (tBM X.K T r to t) := by
 intro pins s σ H Q I h
 refine wpAny_Call_method_late hbase hfew hline rfl (thn (ho pins s σ H _ I h) fun v s1 hz9 => ?_)
 obtain ⟨x, H1, I1, r1, ty, q1⟩ := hz9
 obtain ⟨h1, h2⟩ := zxu I1 r1 ty
 refine ⟨T, id, pa, slot, hty, h1, h2, ?_⟩
 have hA := ha cpos pins s1 σ H1 _ I1 q1
 rw [hs] at hA ⊢
 refine Calls.callWith_builtin (by show (false || (backTo cpos (starEach es X.env)).any (·.1)) = false; rw [hplain] <;> rfl) (Calls.evalArgs_plain ?_)
 refine thn hA fun us s2 hz9 => ?_
 obtain ⟨vs, H2, I2, r2, q2⟩ := hz9
 exact hm pins s2 σ H2 x vs v us Q I2 r1 r2 q2
end
end L2
namespace L2
open PySem PySem.Spec PyProof.Rows
noncomputable def MtM (X : Cx) (id : String) (r : V -> List V -> Hp -> VK -> Prop) : Prop :=
 ∀ (pins : List (Addr × Obj)) (s : Shared) (σ : St) (H : Hp) (x : V) (xs : List V) (v : Value) (us : List Value) (Q : VK), Inv X pins σ H s -> RelV x v -> Vals xs us -> r x xs H Q ->
  wpAny (model X.prog X.w) X.A (call (.builtin id) (v :: us)) (EP X pins σ Q) X.xe s
theorem Vals.one : ∀ {x : V} {us : List Value}, Vals [x] us -> ∃ u, us = [u] /\ RelV x u
 | _, _, .cons r .nil => ⟨_, rfl, r⟩
theorem Vals.two : ∀ {x y : V} {us : List Value}, Vals [x, y] us -> ∃ u v, us = [u, v] /\ RelV x u /\ RelV y v
 | _, _, _, .cons r (.cons q .nil) => ⟨_, _, rfl, r, q⟩
section
variable {X : Cx} {pins : List (Addr × Obj)} {σ : St} {H : Hp} {s : Shared} {l b : Addr} {xs ys zs : List V}
theorem Inv.lset {its its' : List Value} {n : Nat} {f : Array Value -> Array Value} {t' : Nat} (I : Inv X pins σ H s) (hH : H l = some (.lst xs))
  (e : s.heap.get? l = some { cls := .type "list", data := .seq its.toArray n }) (hf : f its.toArray = its'.toArray) (hv : Vals ys its') (hz : ys.length <= sizeLine) :
  Inv X pins σ (upd H l (.lst ys)) { s with heap := s.heap.update l (Obj.mapSeq f), toks := t' } := by
 have q := PySem.IsL.update e f
 rw [hf] at q
 refine I.write (x:=l) (e:=l) (by rw [hH]; exact trivial) (.inl rfl) (fun b' u hb hu => (Heap.get?_update_other s.heap (Obj.mapSeq f) (Ne.symm hb)).trans hu) ⟨_, q⟩ ?_
 exact ⟨hz, its', _, hv, q⟩
theorem Inv.lnew {its : List Value} {t' : Nat} (I : Inv X pins σ H s) (hv : Vals ys its) (hz : ys.length <= sizeLine) :
  Inv X pins σ (upd H s.heap.objs.size (.lst ys)) { s with heap := s.heap.push { cls := .type "list", data := .seq its.toArray }, toks := t' } :=
 I.laid (fun _ _ q => Heap.get?_push_of_some _ q) (Nat.le_refl _) ⟨hz, its, 0, hv, Heap.get?_push_size _ rfl⟩
theorem Inv.fresh (I : Inv X pins σ H s) : H s.heap.objs.size = none := I.hok.fresh (Nat.le_refl _)
theorem Inv.lstM (I : Inv X pins σ H s) (hH : H l = some (.lst xs)) : xs.length <= sizeLine /\ ∃ (its : List Value) (n : Nat), Vals xs its /\ xs.length = its.length /\ s.heap.get? l = some { cls := .type "list", data := .seq its.toArray n } := by
 obtain ⟨z, its, n, r, e⟩ := I.hok l _ hH
 exact ⟨z, its, n, r, r.length, e⟩
end
section
variable {X : Cx}
noncomputable def zrd : V -> List V -> Hp -> VK -> Prop := fun x vs H Q => ∃ l xs y, x = .ref l /\ vs = [y] /\ H l = some (.lst xs) /\ xs.length < sizeLine /\ Q .non (upd H l (.lst (xs ++ [y])))
theorem zdv : MtM X "list.append" zrd := by
 intro pins s σ H x vs v us Q I rx rv h
 obtain ⟨l, xs, y, rfl, rfl, hH, hz, q⟩ := h
 cases rx
 obtain ⟨u, rfl, ru⟩ := rv.one
 obtain ⟨z, its, n, r, hl, e⟩ := I.lstM hH
 refine call_meets F.slot_list_append ⟨_, e, rfl⟩ F.entry_list_append (F.args_list_append_2 _ _) (PySem.list_append l its.toArray n u (by rw [List.size_toArray]; omega)) ⟨e, ?_⟩
 refine ⟨.non, _, I.lset (its':=its ++ [u]) hH e (by simp) (r.append (.cons ru .nil)) ?_, rfl, q⟩
 rw [List.length_append, List.length_singleton]
 omega
end
end L2
namespace Att
open PySem PySem.W PySem.Calls PyProof.Rows
theorem zgu {P : Params} {h : Heap} : ∀ (ns : List Int) (vs : List Value), WellAll P h vs (ns.map WData.int) -> IntsAre vs ns := by
 intro ns
 induction ns with
 | nil =>
  intro vs w
  rw [List.map_nil] at w
  cases w
  exact .nil
 | cons n ns ih =>
  intro vs w
  rw [List.map_cons] at w
  cases w with
  | cons a b =>
   cases a
   exact .cons _ _ (ih _ b)
theorem zph {l : OpenLaw} {n : Nat} (hn : l.most = some n) {P : Params} {h : Heap} {args : List WData} {vals : List Value}
  (hpre : l.row.toRowW.claim.pre args = true) (hwl : WellAll P h vals args) :
  ∃ a vs ns, vals = [Value.ref a] /\ args = [WData.list (ns.map WData.int)] /\ h.get? a = some { cls := .type "list", data := .seq vs.toArray } /\ IntsAre vs ns /\ ns.length <= n := by
 have hsh : WShape.hasAll [] args [.list .int] = true := (pre_splitW hpre).1
 have hc : l.pre.holds [] { args := args } = true := (pre_splitW hpre).2
 obtain ⟨d, r, rfl, h1, h2⟩ := hasAllW_cons hsh
 obtain rfl := hasAllW_nil h2
 obtain ⟨xs, rfl, h3⟩ := hasW_list h1
 obtain ⟨ns, rfl⟩ := items_int h3
 have hlen : ns.length <= n := by
  unfold OpenLaw.pre at hc
  have h4 : (WTm.not (.lt (.lit (.int (n : Int))) (.len (.arg 0)))).holds [] { args := [.list (ns.map .int)] } = true := by
   have h4 := (holds_andW hc).1
   rw [hn] at h4
   exact h4
  have h5 := condW_of h4 (w_not (w_lt w_lit (w_len_list (w_arg rfl))))
  rw [List.length_map] at h5
  refine Nat.le_of_not_lt fun q => ?_
  have q' : (n : Int) < ((ns.length : Nat) : Int) := by omega
  first
   | (rw [decide_eq_true q'] at h5; exact absurd h5 (by decide))
   | (simp at h5; omega)
 cases hwl with
 | cons w1 w2 =>
  cases w2
  cases w1 with
  | list ho hall => exact ⟨_, _, ns, rfl, rfl, ho, zgu ns _ hall, hlen⟩
theorem zp8 (l : OpenLaw) (args : List WData) : l.row.toRowW.claim.post args (.bool true) args = true :=
 postW_of (r:=l.row.toRowW) (X:=(true == true))
  (show WShape.has [] (.bool true) .bool = true by first | rfl | decide | simp [WShape.has, WShape.arms, WShape.armsAll])
  (show (WTm.eq .res (.lit (.bool true))).value [] { args := args, res := some (.bool true), after := args } = some (.bool (true == true)) from w_eq_bool (w_res rfl) w_lit) rfl
theorem attach_call {l : OpenLaw} {n : Nat} {q : Program} {loose : List Str} {XP : (Str -> Option Value) -> Heap -> Prop} {YP : World -> Heap -> Prop} {d : DefRec}
  (hn : l.most = some n) (hdf : d.params.defaults = [])
  (call : ∀ (w : World) (s₀ s₁ : Shared) (mg mb : Str -> Option Value) (fa : Addr) (o : Obj) (pm cd doc : Value) (a : Addr) (vs : List Value) (ns : List Int),
   Ground q loose [] XP w s₀ mg mb s₁.heap -> YP w s₁.heap ->
   s₁.heap.get? fa = some o -> o.data = .func (docDef d.name d.params d.body d.scope pm cd doc) -> s₁.heap.CodeRec cd d.name -> mg d.name = some (.ref fa) ->
   s₁.heap.get? a = some { cls := .type "list", data := .seq vs.toArray } -> IntsAre vs ns -> ns.length <= n -> s₁.gens = #[] ->
   codeAny (model l.prog w) callerA (.call (.ref fa) ⟨[.ref a], []⟩) (fun r s' => r = .ok (.ret (.bool true)) /\ OldK s₁.heap s'.heap /\ s'.os = s₁.os /\ AllBare s'.gens) s₁) :
  WalkO q loose XP YP l.row.toRowW d [] (fun f vs => PySem.call f vs) := by
 intro w s₀ s₁ mg mb G Y fa o pm cd doc dV kV ho hd hcd hD hmg hg args vals as hpre hlay hrd hwl hlo
 obtain rfl : dV = .none := Dflts.none hD hdf
 obtain rfl : kV = .none := Dflts.noKw hD
 obtain ⟨a, vs, ns, rfl, rfl, hobj, hints, hlen⟩ := zph hn hpre hwl
 refine enter_call (codeAny_mono (call w s₀ s₁ mg mb fa o pm cd doc a vs ns G Y ho (fd_plain hd) hcd hmg hobj hints hlen hg) fun r s' hq => ?_)
 obtain ⟨rfl, h2, h3, h4⟩ := hq
 exact ⟨.inl ⟨.bool true, .bool true, [], rfl, fun _ => rfl, .bool true, zp8 l _, fun _ => ⟨List.Pairwise.nil, fun _ hm => (nomatch hm)⟩⟩, h2, h3, h4⟩
section
variable {prog : Program} {w : World} {A : Around} {E : Value -> Shared -> Prop} {s : Shared} {K : Frag}
end
end Att
namespace L2
open PySem PySem.Spec PyProof.Rows
theorem zjt : ∀ {vs : List Value} {ns : List Int}, IntsAre vs ns -> Vals (ns.map V.int) vs
 | _, _, .nil => .nil
 | _, _, .cons n t h => .cons ⟨t, rfl⟩ (zjt h)
noncomputable def Only (H : Hp) : Prop := ∀ b, H b = none \/ ∃ o xs, H b = some (.frz o (.lst xs))
theorem zst {P : Program} {w : World} {K : PySem.W.Frag} {mg mb : Str -> Option Value} {CX : CXT} {k : Nat} {fa a : Addr} {fd : FuncData} {x : Str} {sp : Sp} {s₁ : Shared} {vs : List Value} {ns : List Int}
  (KX : K.In s₁.heap) (hns : s₁.heap.Ns mainGlobals mg) (hb : s₁.heap.Ns builtinsNs mb) (hbb : ∀ x : Str, x ≠ "__name__" -> mb x = bootBuiltins x) (hlim : s₁.heap.NoLimit) (hg : s₁.gens = #[])
  (ha : s₁.heap.get? a = some { cls := .type "list", data := .seq vs.toArray }) (hi : IntsAre vs ns) (hl : ns.length <= sizeLine) (hr : Room k callerA)
  (F : ∀ base : Heap, K.In base -> base.Ns mainGlobals mg -> FnOk P w K mg base CX k fa fd [x] sp) (hbind : ∀ (s : Shared) (u : Value), BindsTo s fd ⟨[u], []⟩ [(x, u)])
  (hsp : ∀ H : Hp, Only H -> SqL K H a (ns.map V.int) -> sp [.ref a] H (fun v _ => v = .bl true) fun _ _ _ => False)
  (hCX : ∀ H e s', CX [] H s₁ (fun _ _ _ => False) e s' -> False) :
  codeAny (model P w) callerA (.call (.ref fa) ⟨[.ref a], []⟩) (fun r s' => r = .ok (.ret (.bool true)) /\ OldK s₁.heap s'.heap /\ s'.os = s₁.os /\ AllBare s'.gens) s₁ := by
 have rv := zjt hi
 have lenV := hi.length
 -- from an abstract heap in which nothing but the script may be tracked
 have core : ∀ H : Hp, Only H -> SqL K H a (ns.map V.int) -> HOk P w H s₁.heap -> (∀ b, H b ≠ none -> b = a) -> (H a ≠ none -> K.lookup a = none) ->
   codeAny (model P w) callerA (.call (.ref fa) ⟨[.ref a], []⟩) (fun r s' => r = .ok (.ret (.bool true)) /\ OldK s₁.heap s'.heap /\ s'.os = s₁.os /\ AllBare s'.gens) s₁ := by
  intro H hO hS hok hA hK
  have base_of : ∀ {b : Addr} {o : Obj}, s₁.heap.get? b = some o -> H b = none -> (hidT s₁.heap H).get? b = some o := fun e n => zr5 e n
  have noA : ∀ {b : Addr} {o : Obj} {es : Array DictEntry} {ep : Nat}, s₁.heap.get? b = some o -> o.data = .dict es ep -> H b = none := fun {b o es ep} e d => by
   cases q : H b with
   | none => rfl
   | some u =>
    have e' : b = a := hA b (by rw [q]; simp)
    subst e'
    rw [ha] at e; cases e
    have d' : Data.seq vs.toArray _ = Data.dict es ep := d
    cases d'
  have nsK : ∀ {b : Addr} {m : Str -> Option Value}, s₁.heap.Ns b m -> (hidT s₁.heap H).Ns b m := fun {b m} ⟨o, es, ep, e, d, r⟩ => ⟨o, es, ep, base_of e (noA e d), d, r⟩
  have hKb : K.In (hidT s₁.heap H) := fun b o e => base_of (KX b o e) (by
   cases q : H b with
   | none => rfl
   | some u =>
    have e' : b = a := hA b (by rw [q]; simp)
    subst e'
    rw [hK (by rw [q]; simp)] at e; cases e)
  have hM : Mod K mg (hidT s₁.heap H) := ⟨hKb, nsK hns, ⟨mb, nsK hb, hbb⟩, let ⟨mc, h1, h2⟩ := hlim; ⟨mc, nsK h1, h2⟩⟩
  have e0 : Env0 P w K mg (hidT s₁.heap H) callerA [] s₁ H := ⟨rfl, hM, fun b o e => zuw e, Nat.le_of_eq (zpk _ _), trivial, fun b hb => absurd (show b ∈ ([] : List Addr) from hb) (by simp), hok, .of_eq hg⟩
  refine codeAny_mono ((F _ hKb (nsK hns)).run callerA [] s₁ H ⟨[.ref a], []⟩ [.ref a] [.ref a] _ _ hr e0 (hbind s₁ (.ref a)) (.cons rfl .nil) (hsp H hO hS)) fun r s' h => ?_
  cases r with
  | error e => exact (hCX H e s' h).elim
  | ok fl =>
   cases fl with
   | next => exact False.elim h
   | brk => exact False.elim h
   | cont => exact False.elim h
   | ret u =>
    obtain ⟨v, H', os, bare, un, hok', r', q⟩ := h
    have q' : v = .bl true := q
    subst q'
    obtain rfl : u = Value.bool true := r'
    refine ⟨rfl, OldK.of_keep fun b o e => ?_, os, bare⟩
    cases q : H b with
    | none => exact un.keep b o e q (by intro z; exact absurd (show b ∈ ([] : List Addr) from z) (by simp)) (by simp)
    | some u =>
     rcases hO b with z | ⟨ob, xs, z⟩
     ·rw [q] at z; cases z
     ·have z2 := un.frzs b ob _ z
      obtain ⟨e1, _⟩ := hok b _ z
      obtain ⟨e2, _⟩ := hok' b _ z2
      rw [e] at e1; cases e1
      exact e2
 cases hk : K.lookup a with
 | some o =>
  -- the script is one of the module's own objects
  have e := KX a o hk
  rw [ha] at e
  cases e
  refine core (fun _ => none) (fun _ => .inl rfl) (.inr ⟨_, vs.toArray, _, hk, rfl, rfl, rfl, by rw [List.size_toArray, lenV]; exact hl, by simpa using rv⟩) (fun b u z => by have z' : (none : Option HO) = some u := z; cases z') (fun b z => absurd rfl z) fun z => absurd rfl z
 | none =>
  refine core (fun b => if b = a then some (.frz { cls := .type "list", data := .seq vs.toArray } (.lst (ns.map V.int))) else none) (fun b => ?_) (.inl (.inr ⟨{ cls := .type "list", data := .seq vs.toArray }, if_pos rfl⟩)) (fun b u z => ?_) (fun b z => ?_) fun _ => hk
  ·by_cases hb : b = a
   ·exact .inr ⟨_, _, if_pos hb⟩
   ·exact .inl (if_neg hb)
  ·by_cases hb : b = a
   ·have z' := (if_pos hb).symm.trans z
    cases z'
    subst hb
    exact ⟨ha, by rw [List.length_map]; exact hl, vs, _, rv, ha⟩
   ·have z' := (if_neg hb).symm.trans z
    cases z'
  ·by_cases hb : b = a
   ·exact hb
   ·exact absurd (if_neg hb) z
end L2
namespace L2
open PySem PySem.Spec PyProof.Rows
theorem walk_of {l : PySem.W.OpenLaw} {n k : Nat} {q : Program} {loose : List Str} {XP : (Str -> Option Value) -> Heap -> Prop} {YP : World -> Heap -> Prop} {d : DefRec} {K : Params -> PySem.W.Frag} {CX : World -> CXT} {sp : World -> Sp} {x : Str}
  (hn : l.most = some n) (hn2 : n <= sizeLine) (hdf : d.params.defaults = []) (hr : Room k callerA)
  (hY : ∀ (w : World) (h : Heap), YP w h -> (K w.params).In h)
  (F : ∀ (w : World) (mg : Str -> Option Value) (fa : Addr) (h : Heap), (K w.params).In h -> h.Ns mainGlobals mg -> mg d.name = some (.ref fa) ->
   ∃ fd : FuncData, (∀ (s : Shared) (u : Value), BindsTo s fd ⟨[u], []⟩ [(x, u)]) /\
    ∀ base : Heap, (K w.params).In base -> base.Ns mainGlobals mg -> FnOk l.prog w (K w.params) mg base (CX w) k fa fd [x] (sp w))
  (hsp : ∀ (w : World) (H : Hp) (a : Addr) (ns : List Int), ns.length <= n -> Only H -> SqL (K w.params) H a (ns.map V.int) -> sp w [.ref a] H (fun v _ => v = .bl true) fun _ _ _ => False)
  (hCX : ∀ (w : World) (H : Hp) (s : Shared) (e : Value) (s' : Shared), CX w [] H s (fun _ _ _ => False) e s' -> False) :
  PySem.W.WalkO q loose XP YP l.row.toRowW d [] (fun f vs => PySem.call f vs) := by
 refine Att.attach_call hn hdf fun w s₀ s₁ mg mb fa o pm cd doc a vs ns G Y ho hd hcd hmg hobj hints hlen hg => ?_
 have KX := hY w _ Y
 obtain ⟨fd, hb, hF⟩ := F w mg fa _ KX G.T.g hmg
 exact zst KX G.T.g G.T.b G.T.builtins G.T.nolimit hg hobj hints (Nat.le_trans hlen hn2) hr hF hb (fun H hO hS => hsp w H a ns hlen hO hS) fun H e s' => hCX w H s₁ e s'
end L2
namespace L2
open PySem PySem.Spec PyProof.Rows
noncomputable def zan (s : Stmt) : Arguments := match s with
 | .FunctionDef _ a _ _ _ _ _ _ _ _ => a
 | _ => { posonlyargs := [], args := [], vararg := none, kwonlyargs := [], kw_defaults := [], kwarg := none, defaults := [] }
noncomputable def zak (s : Stmt) : List Stmt := match s with
 | .FunctionDef _ _ b _ _ _ _ _ _ _ => b
 | _ => []
noncomputable def zac (s : Stmt) : Scope := match s with
 | .FunctionDef _ _ _ _ _ _ sc _ _ _ => sc
 | _ => { kind := .function, names := [], isGenerator := false, isCoroutine := false }
noncomputable abbrev CX0 : CXT := fun _ _ _ _ _ _ => False
noncomputable abbrev E0 : XK := fun _ _ _ => False
theorem zcx {X : Cx} : zf6 CX0 X E0 := fun _ _ _ _ _ _ _ h => h.elim
structure Fun (K : PySem.W.Frag) (x qual : Str) (st : Stmt) (f : Addr) (fd : FuncData) : Prop where
 ex : ∃ (oc : Value) (od : Option Addr) (kV doc pm : Value) (an : Option Addr) (cdv ct : Value) (osl : Array (Option Value)),
  fd = PySem.W.fnOf x qual (zan st) (zak st) (zac st) .none kV doc pm an cdv ct /\ K.lookup f = some ⟨oc, od, .func fd, osl⟩ /\ PySem.W.codeIn K cdv qual = true
 kp : PySem.W.keepIn K (.ref f) = true
section
variable {P : Program} {w : World} {K : PySem.W.Frag} {mg : Str -> Option Value} {base : Heap}
theorem Fun.ok {x qual : Str} {st : Stmt} {f : Addr} {fd : FuncData} {N ps : List Str} {k : Nat} {sp : Sp} (F : Fun K x qual st f fd) (S : FnScope N ps (zac st)) (len : ∀ vs H Q E, sp vs H Q E -> vs.length = ps.length)
  (hbody : ∀ (cdv : Value) (A : Around) (outer : List Env) (s : Shared) (H : Hp) (vs : List V) (Q : VK) (E : XK), Room k (A.deeper (envOfC qual (zac st) s.heap.objs.size f cdv)) -> sp vs H Q E ->
   ∃ t, PSs (cxOf CX0 P w K mg base N qual (zac st) f cdv A outer s H E).nox (zak st) t /\ t { nx := fun _ H' => Q .non H', rt := Q } (start N vs) H) : FnOk P w K mg base CX0 (k + 1) f fd ps sp := by
 obtain ⟨oc, od, kV, doc, pm, an, cdv, ct, osl, rfl, lk, hcd⟩ := F.ex
 refine zw5 lk hcd S len fun A outer s H vs Q E hr hsp => ?_
 obtain ⟨t, h, q⟩ := hbody cdv A outer s H vs Q E hr hsp
 exact ⟨t, h.nox, q⟩
theorem Fun.binds {x qual : Str} {st : Stmt} {f : Addr} {fd : FuncData} {ps : List Str} (F : Fun K x qual st f fd)
  (h : ∀ (kV doc pm : Value) (an : Option Addr) (cdv ct : Value) (us : List Value), us.length = ps.length -> bindArgs (PySem.W.fnOf x qual (zan st) (zak st) (zac st) .none kV doc pm an cdv ct) ⟨us, []⟩ = pure (ps.zip us)) : zb0 K fd ps [] := by
 obtain ⟨oc, od, kV, doc, pm, an, cdv, ct, osl, rfl, lk, hcd⟩ := F.ex
 exact .all (h kV doc pm an cdv ct)
theorem zb2 {x qual : Str} {st : Stmt} {f : Addr} {oc : Value} {od an : Option Addr} {osl : Array (Option Value)} {kV doc pm cdv ct : Value} (l : K.lookup f = some ⟨oc, od, .func (PySem.W.fnOf x qual (zan st) (zak st) (zac st) .none kV doc pm an cdv ct), osl⟩)
  (c : PySem.W.codeIn K cdv qual = true) (k : PySem.W.keepIn K (.ref f) = true) : Fun K x qual st f (PySem.W.fnOf x qual (zan st) (zak st) (zac st) .none kV doc pm an cdv ct) := ⟨⟨oc, od, kV, doc, pm, an, cdv, ct, osl, rfl, l, c⟩, k⟩
end
section
variable {X : Cx}
theorem pv (i : Nat) {x : Str} {pos : Pos} (hN : X.N[i]? = some x := by rfl) (hv : Vis X.env.scope x := by first | exact Or.inl rfl | exact Or.inr (Or.inl rfl) | exact Or.inr (Or.inr rfl)) (hd : (x == ("__debug__" : Str)) = false := by decide)
  (hcd : (x == ("__classdict__" : Str)) = false := by decide) : PE X (.Name x pos) (tVar i) := zx2 hN hv hd hcd
end
theorem iteF {A B : Prop} (h : B) : if false = true then A else B := by
 rw [if_neg Bool.false_ne_true]
 exact h
theorem iteT {A B : Prop} (h : A) : if true = true then A else B := by
 rw [if_pos rfl]
 exact h
noncomputable def Same (H H' : Hp) : Prop := ∀ b o, H b = some o -> H' b = some o
theorem Same.refl (H : Hp) : Same H H := fun _ _ h => h
theorem Same.trans {H H1 H2 : Hp} (a : Same H H1) (b : Same H1 H2) : Same H H2 := fun c o h => b c o (a c o h)
theorem Same.free {H H' : Hp} (e : Same H H') {l : Addr} (h : H' l = Option.none) : H l = Option.none := by
 cases q : H l with
 | none => rfl
 | some o =>
  rw [e l o q] at h
  cases h
theorem Same.seq {K : PySem.W.Frag} {H H' : Hp} {a : Addr} {xs : List V} (e : Same H H') (h : SqL K H a xs) : SqL K H' a xs := by
 rcases h with (h | ⟨o, h⟩) | h
 ·exact .inl (.inl (e _ _ h))
 ·exact .inl (.inr ⟨o, e _ _ h⟩)
 ·exact .inr h
end L2
set_option maxHeartbeats 4000000
namespace L2
open PySem PySem.Spec PyProof.Rows
noncomputable abbrev KT (H : Hp) : List (List Key × V) -> List (List Key × Addr × Value) -> Prop := Paired fun p q => p.1 = q.1 /\ H q.2.1 = some (.tup (p.1.map kV)) /\ RelV p.2 q.2.2
section
variable {X : Cx} {pins : List (Addr × Obj)} {σ : St} {H : Hp} {s : Shared} {a : Addr} {y v : V} {u r : Value} {o : Option V} {A : Around} {E : Value -> Shared -> Prop}
end
structure M1 (X : Cx) (o : Expr) (m : Str) (apos : Pos) (e : Expr) (cpos : Pos) : Prop where
 base : attributeBase o m X.env (eval o X.env) = eval o X.env
 few : ((backTo cpos (starEach [e] X.env)).all (fun x => !x.1) && (backToKw cpos (keywordEach [] X.env)).all (fun x => x.1.isSome)
  && decide (([e] : List Expr).length + ([] : List Keyword).length + (if ([] : List Keyword).isEmpty then 0 else 1) < 30)) = true
 line : (apos.endLine == cpos.line) = true
 trees : backTo cpos (starEach [e] X.env) = [(false, eval e X.env)]
structure M2 (X : Cx) (o : Expr) (m : Str) (apos : Pos) (e f : Expr) (cpos : Pos) : Prop where
 base : attributeBase o m X.env (eval o X.env) = eval o X.env
 few : ((backTo cpos (starEach [e, f] X.env)).all (fun x => !x.1) && (backToKw cpos (keywordEach [] X.env)).all (fun x => x.1.isSome)
  && decide (([e, f] : List Expr).length + ([] : List Keyword).length + (if ([] : List Keyword).isEmpty then 0 else 1) < 30)) = true
 line : (apos.endLine == cpos.line) = true
 trees : backTo cpos (starEach [e, f] X.env) = [(false, eval e X.env), (false, eval f X.env)]
end L2
namespace L2
open PySem PySem.Spec PyProof.Rows
end L2
namespace L2
open PySem PySem.Spec PyProof.Rows PySem.Builtin PySem.Builtin.Str
noncomputable def T (l : List Nat) : Str := ⟨l.toArray⟩
theorem zdh (l : List Nat) : (T l).cps.toList = l := by simp [T]
theorem zsn {a b : List Nat} : T a = T b ↔ a = b := by
 constructor
 ·intro h
  have := congrArg (fun x : Str => x.cps.toList) h
  simpa [T] using this
 ·rintro rfl; rfl
theorem zbl (l : List Nat) : (T l).length = l.length := by simp [T, Str.length]
theorem zvn (a b : List Nat) : T a ++ T b = T (a ++ b) := by
 show Str.append (T a) (T b) = _
 simp [Str.append, T]
theorem zmd (a b : List Nat) : decide ((V.str (T a)) = V.str (T b)) = decide (a = b) := by
 by_cases h : a = b
 ·subst h; simp
 ·rw [decide_eq_false h, decide_eq_false]
  intro q; injection q with q; exact h (zsn.mp q)
section
variable {X : Cx}
theorem zgw : ∀ (l : List (Str × Tok)), Vals ((l.map (·.1)).map V.str) (strValues l)
 | [] => .nil
 | p :: r => .cons ⟨p.2, rfl⟩ (zgw r)
theorem zkg : ∀ {ys : List Str} {us : List Value}, Vals (ys.map V.str) us -> StrsAre us ys
 | [], _, h => by cases h; exact .nil
 | y :: r, _, h => by
  cases h with
  | cons a b =>
   obtain ⟨t, rfl⟩ := a
   exact .cons y t (zkg b)
noncomputable def zt8 : V -> List V -> Hp -> VK -> Prop := fun x vs H Q => ∃ z y, x = .str z /\ vs = [.str y] /\ (y.length == 0) = false /\ z.length + 2 <= sizeLine /\ ∀ p, H p = none -> Q (.ref p) (upd H p (.lst ((Txt.split z y).map V.str)))
theorem zro (x y : Str) : (Txt.split x y).length <= x.length + 2 := by
 unfold Txt.split
 split
 ·simp
 ·split
  ·simp
  ·rw [length_partsBetween]
   have := StrLaws.occ_length_le x y 0 x.length (x.length + 1)
   lia
theorem zti : MtR X "str.split" zt8 := by
 intro pins s σ H x xs v us Q I rx rs h
 obtain ⟨z, y, rfl, rfl, hy, hz, q⟩ := h
 obtain ⟨t, rfl⟩ := rx
 obtain ⟨u, rfl, ru⟩ := Vals.one rs
 obtain ⟨u, rfl⟩ := ru
 have hlen := zro z y
 have fin : ∀ (l : List (Str × Tok)) (k : Nat), l.map (·.1) = Txt.split z y ->
   EP X pins σ Q (.ref s.heap.objs.size) { s with heap := s.heap.push { cls := .type "list", data := .seq (strValues l).toArray }, toks := k } := fun l k e => by
  have v1 := zgw l
  rw [e] at v1
  exact ⟨.ref s.heap.objs.size, _, I.lnew v1 (by rw [List.length_map]; lia), rfl, q _ I.fresh⟩
 have hn : (partsBetween z (occurrences z y 0 z.length (z.length + 1)) y.length).length <= sizeLine := by
  have e1 := StrLaws.occ_length_le z y 0 z.length (z.length + 1)
  rw [length_partsBetween]; lia
 cases h1 : (decide (z.length < y.length) || decide (strKind z < strKind y))
 ·cases hf : (occurrences z y 0 z.length (z.length + 1)).isEmpty
  ·refine call_meets F.slot_str_split (typeIs_str _ _ _) F.entry_str_split (F.args_str_split_2 _ _) (meets_str_split_sep z y t u h1 hy hf (by lia) hn) ?_
   show wants (EP X pins σ Q) X.xe _ { s with toks := _, heap := s.heap.push { cls := .type "list", data := .seq (strsFrom s.toks (partsBetween z (occurrences z y 0 z.length (z.length + 1)) y.length)).toArray } }
   rw [strsFrom_eq]
   exact fin (numbered s.toks _) _ ((numbered_texts _ _).trans ((if_neg (ne_true_of_eq_false h1)).trans (if_neg (ne_true_of_eq_false hf))).symm)
  ·exact call_meets F.slot_str_split (typeIs_str _ _ _) F.entry_str_split (F.args_str_split_2 _ _) (meets_str_split_not_found z y t u h1 hy hf)
    (fin [(z, t)] s.toks ((if_neg (ne_true_of_eq_false h1)).trans (if_pos hf)).symm)
 ·exact call_meets F.slot_str_split (typeIs_str _ _ _) F.entry_str_split (F.args_str_split_2 _ _) (meets_str_split_cannot_occur z y t u h1)
   (fin [(z, t)] s.toks (if_pos h1).symm)
noncomputable def zxq (K : PySem.W.Frag) : V -> List V -> Hp -> VK -> Prop := fun x vs H Q => ∃ z p ys, x = .str z /\ vs = [.ref p] /\ SqL K H p (ys.map V.str) /\ (ys.map (·.length)).sum + ys.length * z.length <= 16777216 /\ Q (.str (Str.join z ys)) H
theorem zpu : MtR X "str.join" (zxq X.K) := by
 intro pins s σ H x xs v us Q I rx rs h
 obtain ⟨z, p, ys, rfl, rfl, hl, hz, q⟩ := h
 obtain ⟨t, rfl⟩ := rx
 obtain ⟨u, rfl, ru⟩ := Vals.one rs
 cases ru
 obtain ⟨its, r, pl, _⟩ := I.list hl
 refine join_list pl.isList (ys:=ys) (by simpa using zkg r) hz fun t' k => ⟨.str _, H, I.tok _, ⟨_, by show _ = Value.str (Str.join z ys) t'; rw [<- StrLaws.glued_eq_join]; rfl⟩, q⟩
end
noncomputable def Its (x : Str) : It := ⟨fun i _ => i < x.cps.toList.length, fun i H v H' => H' = H /\ ∃ c, x.cps.toList[i]? = some c /\ v = .str (T [c]), fun i _ => x.cps.toList.length <= i⟩
theorem zjg {P : Program} {w : World} {K : PySem.W.Frag} {tg : Expr} {it : Addr} {n : Nat} {R : Nat -> Value -> Prop} {St : Nat -> Heap -> Prop} {J : It}
  (W : ∀ A' : Around, A'.handled = none -> Walks P w A' it [it] [it] n R St) (hself : ∀ (A' : Around) (i : Nat) (s : Shared) (Q : Value -> Shared -> Prop) (E : Value -> Shared -> Prop), St i s.heap -> Q (.ref it) s -> wpAny (model P w) A' (pyIter (.ref it)) Q E s) (ho : ∀ i h, St i h -> ∃ o T vs, h.get? it = some o /\ o.cls = .type T /\ o.data = .fields vs /\ ["enumerate", "zip", "dict_itemiterator", "dict_reverseitemiterator", "odict_iterator", "itertools.zip_longest", "itertools.pairwise"].contains T = false)
  (hgo : ∀ i H, J.go i H -> i < n) (hst : ∀ i H, J.stop i H -> n <= i) (hy : ∀ i v H, i < n -> R i v -> ∃ x, RelV x v /\ J.yld i H x H) : Turn P w K tg J [it] it (fun i h => i <= n /\ St i h) where
 mem := by simp
 obj := fun i h st b hb => by
  have e : b = it := by simpa using hb
  subst e
  obtain ⟨o, T, vs, e, c, d, _⟩ := ho i h st.2
  exact ⟨o, e, fun v z => by rw [d] at z; cases z⟩
 keep := fun i h h' st k => ⟨st.1, by
  have W0 := W ({} : Around) rfl
  exact W0.frame i h h' st.2 fun b hb o e => k b hb o e⟩
 item := by
  intro X hP hw hK hc i pins s σ H E I hf st hg
  subst hP hw hK
  obtain ⟨f0, f1, f2, f3, f4, f5⟩ := hf it (by simp)
  have hi := hgo i H hg
  refine (W X.A (I.ok.hd hc)).item i s _ _ hi st.2 fun v h' tk hv st' kk => ?_
  obtain ⟨x, rx, yx⟩ := hy i v H hi hv
  have I1 : Inv X pins σ H { s with heap := h', toks := tk } := I.turned (fun b o hb e => kk b o (by simpa using hb) e) f0 f1 f3 f4 f5
  obtain ⟨o, T, vs, e, c, d, nz⟩ := ho _ _ st'
  exact ⟨v, rfl, zv3 (s:={ s with heap := h', toks := tk }) (n:=T) e c d nz ⟨x, H, I1, rx, yx, ⟨hi, st'⟩, fun b hb => (hf b hb).1⟩⟩
 done := by
  intro X hP hw hK hc i pins s σ H E I hf st hg
  subst hP hw hK
  obtain ⟨f0, f1, f2, f3, f4, f5⟩ := hf it (by simp)
  have e : i = n := Nat.le_antisymm st.1 (hst i H hg)
  subst e
  exact (W X.A (I.ok.hd hc)).done s _ _ st.2 fun h' tk kk => ⟨rfl, I.turned (fun b o hb e => kk b o (by simpa using hb) e) f0 f1 f3 f4 f5⟩
 self := fun A i s Q E st h => hself A i s Q E st.2 h
section
variable {X : Cx} {tg : Expr}
noncomputable def iStr (tl : TE) : TI := fun σ H R => tl σ H fun x H1 => ∃ z, x = .str z /\ R (Its z) H1
theorem zty {l : Expr} {tl : TE} (hl : PE X l tl) : PI X tg l (iStr tl) := by
 intro pins s σ H R I h
 refine thn (hl pins s σ H _ I h) fun v s1 hz9 => ?_
 obtain ⟨x, H1, I1, r1, q1⟩ := hz9
 obtain ⟨z, e, q⟩ := q1
 subst e
 obtain ⟨t, rfl⟩ := r1
 have fin : ∀ (o : Obj) (St : Nat -> Heap -> Prop), Turn X.prog X.w X.K tg (Its z) [s1.heap.objs.size] s1.heap.objs.size (fun i h => i <= z.cps.size /\ St i h) -> St 0 (s1.heap.push o) ->
   PIE X pins σ tg R (.ref s1.heap.objs.size) { s1 with heap := s1.heap.push o } := fun o St Tn st => by
  refine ⟨s1.heap.objs.size, [s1.heap.objs.size], _, _, H1, rfl, I1.kept (t':=s1.toks) fun b o e => Heap.get?_push_of_some _ e, Tn, ⟨Nat.zero_le _, st⟩, fun b hb => ?_, q⟩
  have e : b = s1.heap.objs.size := by simpa using hb
  subst e
  exact I1.fpOk (Nat.le_refl _) (I1.hok.fresh (Nat.le_refl _))
 have hgo : ∀ i H, (Its z).go i H -> i < z.cps.size := fun i _ h => by simpa [Its] using h
 have hst : ∀ i H, (Its z).stop i H -> z.cps.size <= i := fun i _ h => by simpa [Its] using h
 have hy : ∀ i v H, i < z.cps.size -> SignAt z i v -> ∃ x, RelV x v /\ (Its z).yld i H x H := fun i v H hi ⟨c, u, hc, e⟩ => by
  subst e
  exact ⟨.str (T [c]), ⟨u, rfl⟩, rfl, c, by simpa using hc, rfl⟩
 cases ha : z.cps.all (· < 128)
 ·refine wpAny_pyIter_wide ha (fin _ _ (zjg (n:=z.cps.size) (R:=SignAt z) (St:=fun i h => h.IsStrIter s1.heap.objs.size "str_iterator" z t i) (fun A' hA => Walks.strWide hA _ z t) (fun _ _ _ _ _ st q => wpAny_pyIter_striter_wide st q) (fun i h st => ?_) hgo hst hy) ⟨_, Heap.get?_push_size _ rfl, rfl, rfl⟩)
  obtain ⟨o, e, c, d⟩ := st
  exact ⟨o, _, _, e, c, d, by decide⟩
 ·refine wpAny_pyIter_ascii ha (fin _ _ (zjg (n:=z.cps.size) (R:=SignAt z) (St:=fun i h => h.IsStrIter s1.heap.objs.size "str_ascii_iterator" z t i) (fun A' hA => Walks.strAscii hA _ z t) (fun _ _ _ _ _ st q => wpAny_pyIter_striter_ascii st q) (fun i h st => ?_) hgo hst hy) ⟨_, Heap.get?_push_size _ rfl, rfl, rfl⟩)
  obtain ⟨o, e, c, d⟩ := st
  exact ⟨o, _, _, e, c, d, by decide⟩
end
end L2
namespace L2
open PySem PySem.Spec PyProof.Rows
noncomputable def clos (cells : List (Str × Addr)) : List (Str × NameKind) -> List (Str × Addr) -> List (Str × Addr)
 | [], acc => acc
 | (n, k) :: r, acc => if k == .free then (match cells.lookup n with | some c => clos cells r ((n, c) :: acc) | none => clos cells r acc) else clos cells r acc
theorem zfu {cells : List (Str × Addr)} : ∀ (names : List (Str × NameKind)) (acc : List (Str × Addr)), (∀ x c, acc.lookup x = some c -> cells.lookup x = some c) -> ∀ x c, (clos cells names acc).lookup x = some c -> cells.lookup x = some c
 | [], _, h => h
 | (n, k) :: r, acc, h => by
  intro x c
  unfold clos
  split
  ·cases e : cells.lookup n with
   | none => exact zfu r acc h x c
   | some d =>
    refine zfu r _ (fun y z hy => ?_) x c
    rw [List.lookup_cons] at hy
    cases q : y == n with
    | true =>
     rw [q] at hy
     have : y = n := by simpa using q
     subst this
     simpa [e] using hy
    | false => rw [q] at hy; exact h y z hy
  ·exact zfu r acc h x c
theorem zfv {cells : List (Str × Addr)} : ∀ (names : List (Str × NameKind)) (acc : List (Str × Addr)) (x : Str), (acc.lookup x).isSome = true -> ((clos cells names acc).lookup x).isSome = true
 | [], _, _, h => h
 | (n, k) :: r, acc, x, h => by
  unfold clos
  split
  ·cases e : cells.lookup n with
   | none => exact zfv r acc x h
   | some d =>
    refine zfv r _ x ?_
    rw [List.lookup_cons]
    cases q : x == n with
    | true => rfl
    | false => exact h
  ·exact zfv r acc x h
theorem zfr {cells : List (Str × Addr)} : ∀ (names : List (Str × NameKind)) (acc : List (Str × Addr)) (x : Str), (x, NameKind.free) ∈ names -> (cells.lookup x).isSome = true -> ((clos cells names acc).lookup x).isSome = true
 | (n, k) :: r, acc, x, hm, hs => by
  unfold clos
  rcases List.mem_cons.mp hm with e | hm
  ·cases e
   simp only [beq_self_eq_true, if_true]
   obtain ⟨c, hc⟩ := Option.isSome_iff_exists.mp hs
   rw [hc]
   refine zfv r _ _ ?_
   simp [List.lookup_cons]
  ·split
   ·cases e : cells.lookup n with
    | none => exact zfr r acc x hm hs
    | some d => exact zfr r _ x hm hs
   ·exact zfr r acc x hm hs
theorem zhi {scope : Scope} {env : Env} (h : ∀ x, (x, NameKind.free) ∈ scope.names -> (env.cells.lookup x).isSome = true) : closureFor scope env = pure (clos env.cells scope.names []) := by
 have gen : ∀ (names : List (Str × NameKind)) (acc : List (Str × Addr)), (∀ x, (x, NameKind.free) ∈ names -> (env.cells.lookup x).isSome = true) ->
   (forIn names acc (fun (p : Str × NameKind) (r : List (Str × Addr)) => (if p.2 == NameKind.free then (do let c <- cellOf env p.1; pure (ForInStep.yield ((p.1, c) :: r))) else pure (ForInStep.yield r) : Sem (ForInStep (List (Str × Addr)))))) = pure (clos env.cells names acc) := by
  intro names
  induction names with
  | nil => intro acc _; rfl
  | cons p r ih =>
   obtain ⟨n, k⟩ := p
   intro acc hh
   rw [List.forIn_cons]
   unfold clos
   cases hk : k == NameKind.free with
   | false =>
    simp only [hk, Bool.false_eq_true, if_false]
    exact ih acc fun x hx => hh x (List.mem_cons_of_mem _ hx)
   | true =>
    have hk' : k = .free := by simpa using hk
    subst hk'
    obtain ⟨c, hc⟩ := Option.isSome_iff_exists.mp (hh n List.mem_cons_self)
    have e : cellOf env n = pure c := by unfold cellOf; rw [hc]
    simp only [beq_self_eq_true, if_true, e, hc]
    exact ih _ fun x hx => hh x (List.mem_cons_of_mem _ hx)
 exact (congrArg (fun (m : Sem (List (Str × Addr))) => m >>= fun cs => pure cs) (gen scope.names [] h)).trans rfl
noncomputable def lcS (nt : Nat) (cs : List Nat) (σ : St) : St := List.replicate nt none ++ cs.map fun i => (σ[i]?).getD none
noncomputable def lcCx (X : Cx) (N' : List Str) (scope : Scope) (s : Shared) (H : Hp) (C : Addr) (fp : List Addr) : Cx :=
 { X with N := N', s₀ := s, H₀ := H, env := compEnvC scope (clos X.env.cells scope.names []) C X.env, outer := X.stack, stack := X.stack, ex := fp, fn := fun _ => false, pn := [], xe := fun _ _ => False }
noncomputable def lcOk (Nx : List Str) (sc scope : Scope) (N' : List Str) (nt : Nat) (cs : List Nat) : Bool :=
 decide (scope.kind = .function) && (scope.names.all fun p => match p.2 with
  | .cell => false
  | .local => decide (scope.names.lookup p.1 = some .local)
  | .free => decide (sc.names.lookup p.1 = some .cell) || decide (sc.names.lookup p.1 = some .free)
  | _ => true) && decide (N'.length = nt + cs.length) && (((N'.drop nt).zip cs).all fun p => decide (Nx[p.2]? = some p.1) && decide (scope.names.lookup p.1 = some .free) && (decide (sc.names.lookup p.1 = some .cell) || decide (sc.names.lookup p.1 = some .free)))
structure LcOk (X : Cx) (scope : Scope) (N' : List Str) (nt : Nat) (cs : List Nat) : Prop where
 kind : scope.kind = .function
 nocell : ∀ y ∈ scope.names, y.2 ≠ .cell
 loc : ∀ y ∈ scope.names, y.2 = .local -> scope.names.lookup y.1 = some .local
 fr : ∀ x, (x, NameKind.free) ∈ scope.names -> X.env.kindOf x = some .cell \/ X.env.kindOf x = some .free
 len : N'.length = nt + cs.length
 cap : ∀ j i, cs[j]? = some i -> ∃ x, N'[nt + j]? = some x /\ X.N[i]? = some x /\ scope.names.lookup x = some .free /\ Vis X.env.scope x /\ X.env.kindOf x ≠ some .local
theorem LcOk.of {X : Cx} {scope : Scope} {N' : List Str} {nt : Nat} {cs : List Nat} {Nx : List Str} {sc : Scope} (hN : X.N = Nx) (hs : X.env.scope = sc) (h : lcOk Nx sc scope N' nt cs = true) : LcOk X scope N' nt cs := by
 subst hN hs
 unfold lcOk at h
 simp only [Bool.and_eq_true, decide_eq_true_eq, List.all_eq_true] at h
 obtain ⟨⟨⟨h1, h2⟩, h3⟩, h4⟩ := h
 refine ⟨h1, fun y hy e => ?_, fun y hy e => ?_, fun x hx => ?_, h3, fun j i e => ?_⟩
 ·have := h2 y hy; rw [e] at this; exact Bool.false_ne_true this
 ·have := h2 y hy; rw [e] at this; exact of_decide_eq_true this
 ·have := h2 _ hx
  simp only [Bool.or_eq_true, decide_eq_true_eq] at this
  exact this
 ·have hj : j < cs.length := (List.getElem?_eq_some_iff.mp e).1
  have hd : (N'.drop nt).length = cs.length := by rw [List.length_drop, h3]; lia
  have hx : (N'.drop nt)[j]? = some ((N'.drop nt)[j]'(by lia)) := by simp [hd, hj]
  generalize (N'.drop nt)[j]'(by lia) = x at hx
  have hz : (x, i) ∈ (N'.drop nt).zip cs := by
   refine List.mem_of_getElem? (i:=j) ?_
   rw [List.getElem?_zip_eq_some]
   exact ⟨hx, e⟩
  have q := h4 _ hz
  simp only [Bool.and_eq_true, Bool.or_eq_true, decide_eq_true_eq] at q
  refine ⟨x, by rw [List.getElem?_drop] at hx; exact hx, q.1.1, q.1.2, ?_, fun z => ?_⟩
  ·exact q.2.elim (fun z => .inr (.inl z)) fun z => .inr (.inr z)
  ·have z' : X.env.scope.names.lookup x = some .local := z
   rcases q.2 with y | y <;> · rw [z'] at y; cases y
theorem zfb {env : Env} : ∀ {names : List (Str × NameKind)} {x : Str}, names.lookup x = some .free ->
  (names.map fun (n, k) => if (k == NameKind.free && env.scope.kind == .function && env.kindOf n == some .cell) then (n, NameKind.cell) else (n, k)).lookup x = some .cell \/
  (names.map fun (n, k) => if (k == NameKind.free && env.scope.kind == .function && env.kindOf n == some .cell) then (n, NameKind.cell) else (n, k)).lookup x = some .free
 | [], _, h => by simp at h
 | (n, k) :: r, x, h => by
  have ih := @zfb env r x
  show List.lookup x ((if (k == NameKind.free && env.scope.kind == .function && env.kindOf n == some .cell) = true then (n, NameKind.cell) else (n, k)) :: _) = _ \/ List.lookup x ((if (k == NameKind.free && env.scope.kind == .function && env.kindOf n == some .cell) = true then (n, NameKind.cell) else (n, k)) :: _) = _
  cases hx : x == n with
  | true =>
   simp only [List.lookup_cons, hx] at h
   cases h
   by_cases hc : (NameKind.free == NameKind.free && env.scope.kind == .function && env.kindOf n == some .cell) = true
   ·rw [if_pos hc]; left; simp only [List.lookup_cons, hx]
   ·rw [if_neg hc]; right; simp only [List.lookup_cons, hx]
  | false =>
   simp only [List.lookup_cons, hx] at h
   by_cases hc : (k == NameKind.free && env.scope.kind == .function && env.kindOf n == some .cell) = true
   ·rw [if_pos hc]; simp only [List.lookup_cons, hx]; exact ih h
   ·rw [if_neg hc]; simp only [List.lookup_cons, hx]; exact ih h
theorem zdu {env : Env} : ∀ {names : List (Str × NameKind)} {x : Str} {q : NameKind}, (∀ y ∈ names, y.2 ≠ .cell) -> (q = .cell \/ q = .free) ->
  (names.map fun (n, k) => if (k == NameKind.free && env.scope.kind == .function && env.kindOf n == some .cell) then (n, NameKind.cell) else (n, k)).lookup x = some q -> (x, NameKind.free) ∈ names
 | [], _, _, _, _, h => by simp at h
 | (n, k) :: r, x, q, hn, hq, h => by
  have ih := @zdu env r x q (fun y hy => hn y (List.mem_cons_of_mem _ hy)) hq
  have h' : List.lookup x ((if (k == NameKind.free && env.scope.kind == .function && env.kindOf n == some .cell) = true then (n, NameKind.cell) else (n, k)) :: (r.map fun (n, k) => if (k == NameKind.free && env.scope.kind == .function && env.kindOf n == some .cell) then (n, NameKind.cell) else (n, k))) = some q := h
  cases hx : x == n with
  | true =>
   have e : x = n := by simpa using hx
   subst e
   by_cases hc : (k == NameKind.free && env.scope.kind == .function && env.kindOf x == some .cell) = true
   ·simp only [Bool.and_eq_true, beq_iff_eq] at hc
    rw [hc.1.1]; exact List.mem_cons_self
   ·rw [if_neg hc] at h'
    simp only [List.lookup_cons, beq_self_eq_true] at h'
    cases h'
    rcases hq with rfl | rfl
    ·exact absurd rfl (hn (x, .cell) List.mem_cons_self)
    ·exact List.mem_cons_self
  | false =>
   refine List.mem_cons_of_mem _ (ih ?_)
   by_cases hc : (k == NameKind.free && env.scope.kind == .function && env.kindOf n == some .cell) = true
   ·rw [if_pos hc] at h'; simp only [List.lookup_cons, hx] at h'; exact h'
   ·rw [if_neg hc] at h'; simp only [List.lookup_cons, hx] at h'; exact h'
section
variable {X : Cx} {pins : List (Addr × Obj)} {σ : St} {H : Hp} {s s' : Shared} {scope : Scope} {N' : List Str} {nt : Nat} {cs : List Nat} {C : Addr} {fp : List Addr} {h' : Heap} {t' : Nat}
theorem zmb (I : Inv X pins σ H s) (L : LcOk X scope N' nt cs) (hf : ∀ b ∈ fp, FpOk X pins H b) (hC : s.heap.objs.size <= C) (k : ∀ b u, s.heap.get? b = some u -> h'.get? b = some u) (hns : h'.Ns C fun _ => none) (fpo : ∀ b ∈ fp, b < s.heap.objs.size) :
  Inv (lcCx X N' scope s H C fp) [] (lcS nt cs σ) H { s with heap := h', toks := t' } := by
 have hfree : H C = none := I.hok.fresh hC
 have csub : ∀ x c, (clos X.env.cells scope.names []).lookup x = some c -> X.env.cells.lookup x = some c := zfu _ _ fun x c h => by simp at h
 have chas : ∀ x, (x, NameKind.free) ∈ scope.names -> ((clos X.env.cells scope.names []).lookup x).isSome = true := fun x hx => by
  refine zfr _ _ x hx ?_
  obtain ⟨c, e⟩ := I.ok.has x (L.fr x hx)
  rw [e]; rfl
 have I4 : Inv X pins σ H { s with heap := h', toks := t' } := I.kept k
 refine ⟨⟨I.ok.mod, L.kind, I.ok.glob, I.ok.blt, hC, fun x y c h1 h2 => I.ok.inj x y c (csub x c h1) (csub y c h2), fun x hx => ?_, fun x c hx => (nomatch hx), I.ok.hd, I.ok.frames, .inl rfl, fun b hb => ⟨?_, fun x c e => ?_⟩, I.bs, Nat.le_trans I.ok.bsz I.sz, fun b o e hb => ?_, fun b hb => ?_, I.stack, I.stkFree⟩,
  rfl, I.bare, Un.kept k, ⟨_, hns, fun i x v e1 e2 e3 => ?_⟩, fun x c e => ?_, hfree, fun x c e => I.freeC x c (csub x c e), fun p hp => absurd (show p ∈ ([] : List (Addr × Obj)) from hp) (by simp), I4.hok, ?_⟩
 ·have hx' : (x, NameKind.free) ∈ scope.names := by
   rcases hx with hx | hx
   ·exact zdu (env:=X.env) L.nocell (.inl rfl) hx
   ·exact zdu (env:=X.env) L.nocell (.inr rfl) hx
  exact Option.isSome_iff_exists.mp (chas x hx')
 ·exact Nat.ne_of_lt (Nat.lt_of_lt_of_le (fpo b hb) hC)
 ·exact (hf b hb).2.2.2.2.1 x c (csub x c e)
 ·obtain ⟨f0, f1, f2, f3, _⟩ := hf b hb
  rcases f3 with z | z
  ·exact I.ok.noex b o e z
  ·exact absurd (Nat.lt_of_lt_of_le (Heap.lt_size e) (Nat.le_trans I.ok.bsz z)) (Nat.lt_irrefl _)
 ·obtain ⟨f0, f1, f2, f3, _⟩ := hf b hb
  intro z
  rcases List.mem_cons.mp (I.stkSub b z) with q | q
  ·exact f1 q
  ·exact f2 q
 ·-- a captured name
  have e2' : (lcS nt cs σ)[i]? = some (some v) := e2
  unfold lcS at e2'
  by_cases hi : i < nt
  ·rw [List.getElem?_append_left (by simpa using hi), List.getElem?_replicate] at e2'
   split at e2' <;> cases e2'
  ·rw [List.getElem?_append_right (by simpa using hi), List.length_replicate, List.getElem?_map] at e2'
   cases ej : cs[i - nt]? with
   | none => rw [ej] at e2'; cases e2'
   | some j =>
    rw [ej] at e2'
    have e2'' : (σ[j]?).getD none = some v := Option.some.inj e2'
    have hσ : σ[j]? = some (some v) := by
     cases q : σ[j]? with
     | none => rw [q] at e2''; cases e2''
     | some z => rw [q] at e2''; exact congrArg some e2''
    obtain ⟨y, y1, y2, y3, y4, y5⟩ := L.cap _ _ ej
    have hxy : x = y := by
     have e1' : N'[i]? = some x := e1
     rw [show nt + (i - nt) = i by lia, e1'] at y1
     exact Option.some.inj y1
    subst hxy
    obtain ⟨m, hn, hl⟩ := I4.loc
    obtain ⟨u, r, l⟩ := hl j x v y2 hσ y4
    refine ⟨u, r, .inr ⟨zfb (env:=X.env) y3, ?_⟩⟩
    rcases l with ⟨l, _⟩ | ⟨_, c, hc, hcell⟩
    ·exact absurd l y5
    ·refine ⟨c, ?_, hcell⟩
     obtain ⟨d, hd⟩ := Option.isSome_iff_exists.mp (chas x (PySem.mem_of_lookup y3))
     have := csub x d hd
     rw [hc] at this
     cases this
     exact hd
 ·exact I4.cell x c (csub x c e)
 ·show (lcS nt cs σ).length = N'.length
  unfold lcS
  rw [L.len]; simp
theorem zim {σ2 : St} {H2 : Hp} (I : Inv X pins σ H s) (hf : ∀ b ∈ fp, FpOk X pins H b) (J : Inv (lcCx X N' scope s H C fp) [] σ2 H2 s') : Inv X pins σ H2 s' :=
 I.call' (ch:=fp) J.os J.base J.hok J.bare fun b hb => by
  obtain ⟨f0, f1, f2, f3, f4, f5⟩ := hf b hb
  exact ⟨f3, f1, f4, f5⟩
end
noncomputable def PIfs (X : Cx) (ifs : List Expr) (t : TT) : Prop :=
 ∀ (pins : List (Addr × Obj)) (s : Shared) (σ : St) (H : Hp) (Q : Bool -> Hp -> Prop), Inv X pins σ H s -> t σ H Q ->
  wpAny (model X.prog X.w) X.A (forIn ifs true fun c r => if r = true then do let ok <- isTrue c X.env (eval c X.env); pure (ForInStep.yield ok) else pure (ForInStep.yield r)) (TP X pins σ Q) X.xe s
noncomputable def zg0 : TT := fun _ H Q => Q true H
theorem zja {X : Cx} : PIfs X [] zg0 := fun _ _ _ H _ I h => wpAny_tests_nil ⟨H, I, h⟩
theorem zsv {X : Cx} {c : Expr} {t : TT} (h : PT X c t) : PIfs X [c] t := fun pins s σ H Q I hq => wpAny_tests_one (h pins s σ H Q I hq)
noncomputable def LCG (nt : Nat) (cs : List Nat) (g : TG) (tt : TT) (te : TE) (σ : St) (Q : VK) (J : It) (H1 : Hp) : Prop := ∀ l, H1 l = none -> ∃ W : Nat -> Nat -> Hp -> Prop, (∃ m, W 0 m (upd H1 l (.lst []))) /\ ∀ i m H2, W i m H2 ->
 (J.stop i H2 /\ Q (.ref l) H2) \/ (J.go i H2 /\ ∃ N : Hp -> Prop, (∀ H', N H' -> ∃ m', m' < m /\ W (i + 1) m' H') /\ ∀ x H3, J.yld i H2 x H3 -> g x (lcS nt cs σ) H3 fun σ2 H4 =>
  (σ2.length = nt + cs.length /\ σ2.drop nt = (lcS nt cs σ).drop nt) /\ tt σ2 H4 fun b H5 => if b = true then te σ2 H5 fun y H6 => ∃ xs, H6 l = some (.lst xs) /\ xs.length < sizeLine /\ N (upd H6 l (.lst (xs ++ [y]))) else N H5)
noncomputable def tLC (nt : Nat) (cs : List Nat) (wi : TI) (g : TG) (tt : TT) (te : TE) : TE := fun σ H Q => wi σ H fun J H1 => LCG nt cs g tt te σ Q J H1
theorem zwe {prog : Program} {w : World} {A : Around} {R : Result -> Shared -> Prop} {s : Shared} {elt target iter : Expr} {ifs : List Expr} {scope : Scope} {pos : Pos} {it acc : Value} {env : Env} (I : Nat -> Shared -> Prop)
  (turn : ∀ n s, I n s -> wpAny (model prog w) A (pyNext it) (fun r s₁ => match r with
   | none => R (.ok .next) s₁
   | some v => wpAny (model prog w) A (letOwnedTupleGo target it v) (fun _ s₁' => wpAny (model prog w) A (assign target env v) (fun _ s₂ =>
     wpAny (model prog w) A (forIn ifs true fun c r => if r = true then do let ok <- isTrue c env (eval c env); pure (ForInStep.yield ok) else pure (ForInStep.yield r)) (fun ok s₃ =>
      if ok = true then wpAny (model prog w) A (eval elt env) (fun x s₄ =>
       wpAny (model prog w) A (call (.builtin "list.append") [acc, x]) (fun _ s₅ => ∃ m, m < n /\ I m s₅) (fun _ _ => False) s₄) (fun _ _ => False) s₃
      else ∃ m, m < n /\ I m s₃) (fun _ _ => False) s₂) (fun _ _ => False) s₁') (fun _ _ => False) s₁) (fun _ _ => False) s)
  (n : Nat) (h : I n s) : codeAny (model prog w) A (.compLoop (.ListComp elt [⟨target, iter, ifs, 0⟩] scope pos) 0 it acc env) R s := by
 refine codeAny_loop rfl I (fun n s hI => ?_) n h
 show wpAny _ A ((compTurn (.ListComp elt [⟨target, iter, ifs, 0⟩] scope pos) 0 it acc env).onRaise (fun x => do noteFrame x env; theTreesLotGoes x)) _ _ s
 refine wpAny_noted ?_
 rw [compTurn_list]
 refine wpAny_bind (wpAny_standAt (wpAny_bind (wpAny_mono (turn n s hI) (fun r s₁ h₁ => ?_) fun _ _ h' => h'.elim)))
 cases r with
 | none => exact wpAny_pure h₁
 | some v =>
  refine wpAny_bind (wpAny_mono h₁ (fun _ s₁' h₁' => ?_) fun _ _ h' => h'.elim)
  refine wpAny_bind (wpAny_mono h₁' (fun _ s₂ h₂ => wpAny_bind (wpAny_mono h₂ (fun ok s₃ h₃ => ?_) fun _ _ h' => h'.elim)) fun _ _ h' => h'.elim)
  cases ok with
  | false => exact wpAny_pure ⟨rfl, h₃⟩
  | true =>
   exact wpAny_bind (wpAny_bind (wpAny_mono h₃ (fun x s₄ h₄ => wpAny_bind (wpAny_mono h₄ (fun _ s₅ h₅ => wpAny_pure (wpAny_pure ⟨rfl, h₅⟩)) fun _ _ h' => h'.elim)) fun _ _ h' => h'.elim))
section
variable {X : Cx} {elt target iter : Expr} {ifs : List Expr} {scope : Scope} {pos : Pos} {N' : List Str} {nt : Nat} {cs : List Nat} {wi : TI} {g : TG} {tt : TT} {te : TE}
theorem zu9 {use : Option (Value -> Sem Unit)} {QQ : Value -> Shared -> Prop} {p2 : Pos} (hc : X.calm = true) (L : LcOk X scope N' nt cs) (hi : PI X target iter wi)
  (hg : ∀ s H C fp, PG (lcCx X N' scope s H C fp) target g) (ht : ∀ s H C fp, PIfs (lcCx X N' scope s H C fp) ifs tt) (he : ∀ s H C fp, PE (lcCx X N' scope s H C fp) elt te)
  {pins : List (Addr × Obj)} {s : Shared} {σ : St} {H : Hp} {Q : VK} (I : Inv X pins σ H s) (h : tLC nt cs wi g tt te σ H Q)
  (fin : ∀ (l : Addr) (H' : Hp) (s' : Shared) (C : Addr), Inv X pins σ H' s' -> FpOk X pins H' C -> (∃ m, s'.heap.Ns C m) -> Q (.ref l) H' -> compPost (model X.prog X.w) X.A X.xe use QQ (.ref l) C (.ok .next) s')
  (hs : ∀ x, foldedSetIterable iter X.env x = pure x := by intro _; rfl) :
  wpAny (model X.prog X.w) X.A (comprehension (.ListComp elt [⟨target, iter, ifs, 0⟩] scope pos) scope X.env p2 (newList []) false (eval iter X.env) use) QQ X.xe s := by
 have hcl : closureFor scope X.env = pure (clos X.env.cells scope.names []) := zhi fun x hx => by
  obtain ⟨c, e⟩ := I.ok.has x (L.fr x hx)
  rw [e]; rfl
 refine wpAny_comprehension_free (env:=X.env) rfl hs hcl L.kind L.loc (thn (hi pins s σ H _ I h) fun v s1 h1 => thn h1 fun itv s2 h2 => ?_)
 obtain ⟨it, fp, tn, J, H1, e, I2, T, st2, f2, R⟩ := h2
 subst e
 refine wpAny_newObj_type ?_
 have hv : Vals [] ([] : List Value) := .nil
 have I3 := I2.lnew (t':=s2.toks) hv (Nat.zero_le _)
 have hfr : H1 s2.heap.objs.size = none := I2.fresh
 have ne3 : ∀ b ∈ fp, b ≠ s2.heap.objs.size := fun b hb z => by
  obtain ⟨o, e, _⟩ := T.obj _ _ st2 b hb
  have := Heap.lt_size e
  rw [z] at this
  exact Nat.lt_irrefl _ this
 have f3 : ∀ b ∈ fp, FpOk X pins (upd H1 s2.heap.objs.size (.lst [])) b := fun b hb => ⟨by rw [zaj (ne3 b hb)]; exact (f2 b hb).1, (f2 b hb).2⟩
 obtain ⟨W, ⟨m0, w0⟩, turn⟩ := R _ hfr
 refine wpAny_newFunctionEnv L.nocell (by intro y hy; simp at hy) (fun h4 hns hsb => ?_) L.kind
 dsimp only at hns hsb ⊢
 generalize hH3 : s2.heap.push { cls := .type "list", dict := none, data := .seq ([] : List Value).toArray } = h3 at hns hsb I3 ⊢
 have hsz3 : h3.objs.size = s2.heap.objs.size + 1 := by rw [<- hH3, Heap.size_push]
 have up4 : ∀ b u, h3.get? b = some u -> h4.get? b = some u := fun b u e => hsb.extBut b u (Nat.ne_of_lt (Heap.lt_size e)) (Heap.get?_push_of_some _ e)
 have fpo : ∀ b ∈ fp, b < h3.objs.size := fun b hb => by
  obtain ⟨o, e, _⟩ := T.obj _ _ st2 b hb
  exact Nat.lt_of_lt_of_le (Heap.lt_size e) (by rw [hsz3]; exact Nat.le_succ _)
 have up3 : ∀ b u, s2.heap.get? b = some u -> h3.get? b = some u := fun b u e => hH3 ▸ Heap.get?_push_of_some _ e
 have J4 : Inv (lcCx X N' scope { s2 with heap := h3 } (upd H1 s2.heap.objs.size (.lst [])) h3.objs.size fp) [] (lcS nt cs σ) (upd H1 s2.heap.objs.size (.lst [])) { s2 with heap := h4, toks := s2.toks + ([] : List (Str × Value)).length } :=
  zmb (t':=s2.toks + ([] : List (Str × Value)).length) I3 L f3 (Nat.le_refl _) up4 (by simpa using hns) fpo
 have st4 : tn 0 h4 := T.keep _ _ _ st2 fun b hb o e => up4 b o (up3 b o e)
 generalize hs3 : ({ s2 with heap := h3 } : Shared) = s3 at I3 J4
 generalize hX' : lcCx X N' scope s3 (upd H1 s2.heap.objs.size (.lst [])) h3.objs.size fp = X' at J4
 have hg' : PG X' target g := hX' ▸ hg _ _ _ _
 have ht' : PIfs X' ifs tt := hX' ▸ ht _ _ _ _
 have he' : PE X' elt te := hX' ▸ he _ _ _ _
 have stat : ∀ {H' : Hp}, (∀ b ∈ fp, H' b = none) -> ∀ b ∈ fp, FpOk X' [] H' b := fun hn b hb => by
  subst hX'
  refine ⟨hn b hb, Nat.ne_of_lt (fpo b hb), J4.ok.exfs b hb, .inl hb, (J4.ok.exf b hb).2, fun p hp => absurd (show p ∈ ([] : List (Addr × Obj)) from hp) (by simp)⟩
 have loop : codeAny (model X.prog X.w) X.A (.compLoop (.ListComp elt [⟨target, iter, ifs, 0⟩] scope pos) 0 (.ref it) (.ref s2.heap.objs.size) (compEnvC scope (clos X.env.cells scope.names []) h3.objs.size X.env))
   (compPost (model X.prog X.w) X.A X.xe use QQ (.ref s2.heap.objs.size) h3.objs.size) { s2 with heap := h4, toks := s2.toks + ([] : List (Str × Value)).length } := by
  have eA : X'.A = X.A := by subst hX'; rfl
  have eP : X'.prog = X.prog := by subst hX'; rfl
  have eW : X'.w = X.w := by subst hX'; rfl
  have eK : X'.K = X.K := by subst hX'; rfl
  have eC : X'.calm = true := by subst hX'; exact hc
  have eE : X'.env = compEnvC scope (clos X.env.cells scope.names []) h3.objs.size X.env := by subst hX'; rfl
  have eX : X'.xe = fun _ _ => False := by subst hX'; rfl
  refine zwe (fun n s' => ∃ i H', Inv X' [] (lcS nt cs σ) H' s' /\ tn i s'.heap /\ (∀ b ∈ fp, H' b = none) /\ W i n H') ?_ m0 ⟨0, _, J4, st4, fun b hb => (f3 b hb).1, w0⟩
  rintro n s5 ⟨i, H5, J5, st5, fr5, w5⟩
  rcases turn i n H5 w5 with ⟨stop, qn⟩ | ⟨go, N, hN, step⟩
  ·have d := T.done X' eP eW eK eC i [] s5 (lcS nt cs σ) H5 (fun _ _ => False) J5 (stat fr5) st5 stop
   rw [eA] at d
   refine thn d fun r s6 hz9 => ?_
   obtain ⟨hr, J6⟩ := hz9
   subst hr
   have I6 : Inv X pins σ H5 s6 := by subst hX'; subst hs3; exact zim I3 f3 J6
   refine fin _ H5 s6 h3.objs.size I6 ?_ ?_ qn
   ·have hn : H5 h3.objs.size = none := by subst hX'; exact J6.free
    subst hs3
    exact I3.fpOk (Nat.le_refl _) hn
   ·obtain ⟨m, hm, _⟩ := J6.loc
    subst hX'
    exact ⟨m, hm⟩
  ·have d := T.item X' eP eW eK eC i [] s5 (lcS nt cs σ) H5 (fun _ _ => False) J5 (stat fr5) st5 go
   rw [eA] at d
   refine thn d fun r s6 hz9 => ?_
   obtain ⟨u, hr, h6⟩ := hz9
   subst hr
   refine thn h6 fun _ s7 hz9 => ?_
   obtain ⟨x, H7, J7, r7, y7, st7, fr7⟩ := hz9
   have J7' := J7.pinned (stat fr7) (T.obj _ _ st7)
   have a := hg' _ s7 (lcS nt cs σ) H7 x u _ J7' r7 (step x H7 y7)
   rw [eA, eP, eW, eE, eX] at a
   refine thn a fun _ s8 ⟨σ8, H8, J8, ⟨e8, d8⟩, q8⟩ => ?_
   have b := ht' _ s8 σ8 H8 _ J8 q8
   rw [eA, eP, eW, eE, eX] at b
   have again : ∀ {s9 : Shared} {H9 : Hp}, Inv X' ([] ++ zhs fp s7.heap) σ8 H9 s9 -> N H9 -> ∃ m, m < n /\ ∃ i H', Inv X' [] (lcS nt cs σ) H' s9 /\ tn i s9.heap /\ (∀ b ∈ fp, H' b = none) /\ W i m H' := fun {s9 H9} J9 n9 => by
    obtain ⟨m', hm, w9⟩ := hN H9 n9
    refine ⟨m', hm, i + 1, H9, ?_, T.keep _ _ _ st7 fun b hb o e => (J9.pin (b, o) (List.mem_append_right _ (List.mem_append_right _ (zci hb e)))).1, fun b hb => ?_, w9⟩
    ·refine J9.unpinned.weak ?_ fun j v ej => ?_
     ·rw [e8]; unfold lcS; simp
     ·by_cases hj : j < nt
      ·unfold lcS at ej
       rw [List.getElem?_append_left (by simpa using hj), List.getElem?_replicate] at ej
       split at ej <;> cases ej
      ·have z := congrArg (fun l : St => l[j - nt]?) d8
       simp only [List.getElem?_drop] at z
       rw [show nt + (j - nt) = j by omega] at z
       rw [z]; exact ej
    ·obtain ⟨o, e, _⟩ := T.obj _ _ st7 b hb
     exact (J9.pin (b, o) (List.mem_append_right _ (List.mem_append_right _ (zci hb e)))).2.1
   refine thn b fun ok s9 hz9 => ?_
   obtain ⟨H9, J9, q9⟩ := hz9
   cases ok with
   | false =>
    rw [if_neg Bool.false_ne_true] at q9 ⊢
    exact again J9 q9
   | true =>
    rw [if_pos rfl] at q9 ⊢
    have c := he' _ s9 σ8 H9 _ J9 q9
    rw [eA, eP, eW, eE, eX] at c
    refine thn c fun y sA hz9 => ?_
    obtain ⟨vy, HA, JA, ry, xs, hl, hz, nA⟩ := hz9
    have ap := zdv (X:=X') _ sA σ8 HA (.ref s2.heap.objs.size) [vy] (.ref s2.heap.objs.size) [y] (fun _ H' => N H') JA rfl (.cons ry .nil) ⟨_, xs, vy, rfl, rfl, hl, hz, nA⟩
    rw [eA, eP, eW, eX] at ap
    refine thn ap fun _ sB hz9 => ?_
    obtain ⟨_, HB, JB, _, nB⟩ := hz9
    exact again JB nB
 exact codeAny_compStart_list loop (T.self X.A 0 _ _ _ st4 loop)
theorem zu3 (hc : X.calm = true) (L : LcOk X scope N' nt cs) (hi : PI X target iter wi)
  (hg : ∀ s H C fp, PG (lcCx X N' scope s H C fp) target g) (ht : ∀ s H C fp, PIfs (lcCx X N' scope s H C fp) ifs tt) (he : ∀ s H C fp, PE (lcCx X N' scope s H C fp) elt te)
  (hs : ∀ x, foldedSetIterable iter X.env x = pure x := by intro _; rfl) : PE X (.ListComp elt [⟨target, iter, ifs, 0⟩] scope pos) (tLC nt cs wi g tt te) := by
 intro pins s σ H Q I h
 rw [eval_ListComp]
 refine zu9 (use:=none) hc L hi hg ht he I h (fun l H' s' C I' f ⟨m, hm⟩ q => ⟨m, hm, fun h' hs' => ?_⟩) hs
 obtain ⟨f0, f1, f2, f3, f4, f5⟩ := f
 exact ⟨.ref l, H', I'.turned (t':=s'.toks) (fun b o hb e => hs'.extBut b o hb e) f0 f1 f3 f4 f5, rfl, q⟩
end
end L2
namespace L2
open PySem PySem.Spec PyProof.Rows
section
variable {X : Cx} {a b : Expr} {ta tb : TE} {pos : Pos}
theorem zfp : zca X (.builtin "isinstance") (fun xs H Q => ∃ x, xs = [.int x, .ty "int"] /\ Q (.bl true) H) := by
 intro pins s σ H xs us Q I r h
 obtain ⟨x, rfl, q⟩ := h
 obtain ⟨u, v, rfl, ⟨t, rfl⟩, rfl⟩ := zke r
 exact IsiPair.int_int ⟨.bl true, H, I, rfl, q⟩
theorem zex : zca X (.builtin "isinstance") (fun xs H Q => ∃ x, xs = [.int x, .ty "bool"] /\ Q (.bl false) H) := by
 intro pins s σ H xs us Q I r h
 obtain ⟨x, rfl, q⟩ := h
 obtain ⟨u, v, rfl, ⟨t, rfl⟩, rfl⟩ := zke r
 exact IsiPair.int_bool ⟨.bl false, H, I.tok _, rfl, q⟩
end
end L2
namespace L2
open PySem PySem.Spec PyProof.Rows
theorem SqL.same {K : PySem.W.Frag} {H H' : Hp} {a : Addr} {xs : List V} (e : Same H H') (h : SqL K H a xs) : SqL K H' a xs := e.seq h
theorem SqT.same {K : PySem.W.Frag} {H H' : Hp} {a : Addr} {xs : List V} (e : Same H H') (h : SqT K H a xs) : SqT K H' a xs := by
 rcases h with (h | ⟨o, h⟩) | h
 ·exact .inl (.inl (e _ _ h))
 ·exact .inl (.inr ⟨o, e _ _ h⟩)
 ·exact .inr h
theorem Same.upd {H : Hp} {l : Addr} {o : HO} (h : H l = none) : Same H (upd H l o) := fun b u e => by rw [zaj (zam e h)]; exact e
end L2
namespace L2
open PySem
end L2
namespace L2
open PySem
end L2
namespace L2
open PySem
end L2
namespace L2
open PySem PySem.Spec PyProof.Rows
section
variable {X : Cx} {pins : List (Addr × Obj)} {σ : St} {H : Hp} {s : Shared} {h' : Heap} {t' : Nat} {wr : List Addr}
theorem Inv.turns (I : Inv X pins σ H s) (hf : ∀ b ∈ wr, FpOk X pins H b) (k : ∀ b o, b ∉ wr -> s.heap.get? b = some o -> h'.get? b = some o) : Inv X pins σ H { s with heap := h', toks := t' } := by
 have nw : ∀ b u, H b = some u -> b ∉ wr := fun b u e z => by have := (hf b z).1; rw [e] at this; cases this
 have nL : X.env.locals ∉ wr := fun z => (hf _ z).2.1 rfl
 refine I.step (g':=s.gens) (d':=s.drawn) (ch:=wr) (fun b hb => ?_) (fun b o _ _ hc e _ => k b o hc e) (fun b o _ _ hc e _ => ⟨o.slots, k b o hc e⟩) (fun _ _ _ _ n => n)
  (fun b o hc e => ⟨o, k b o hc e⟩) (fun _ _ e => e) (fun _ _ _ e => e) (fun b ps e => ⟨#[], by rw [e]; simp⟩) (fun m hm => ?_) (fun b u e => ?_) I.bare
 ·obtain ⟨f0, f1, f2, f3, f4, f5⟩ := hf b hb
  exact ⟨f3, f1, f4, f5⟩
 ·obtain ⟨o, es, ep, ho, r⟩ := hm
  exact ⟨o, es, ep, k _ o nL ho, r⟩
 ·refine (I.hok b u e).stay (fun c v hc q => k c v ?_ q) (fun _ q => q) fun _ _ q => q
  rcases hc with z | z
  ·rw [z]; exact nw b u e
  ·exact nw c _ z
theorem Inv.turnsT (I : Inv X pins σ H s) {T0 : Addr} {vs : List V} {vals : Array Value} (hf : ∀ b ∈ wr, FpOk X pins H b) (k : ∀ b o, b ∉ wr -> s.heap.get? b = some o -> h'.get? b = some o) (hT : s.heap.objs.size <= T0) (ht : h'.IsTuple T0 vals) (hv : Vals vs vals.toList)
  (hz : vs.length <= sizeLine) : Inv X pins σ (upd H T0 (.tup vs)) { s with heap := h', toks := t' } := by
 have nw : ∀ b u, H b = some u -> b ∉ wr := fun b u e z => by have := (hf b z).1; rw [e] at this; cases this
 have nL : X.env.locals ∉ wr := fun z => (hf _ z).2.1 rfl
 have fresh : H T0 = none := I.hok.fresh hT
 have ne : ∀ b o, s.heap.get? b = some o -> b ≠ T0 := fun b o e => Nat.ne_of_lt (Nat.lt_of_lt_of_le (Heap.lt_size e) hT)
 refine I.step (g':=s.gens) (d':=s.drawn) (ch:=wr) (fun b hb => ?_) (fun b o _ _ hc e _ => k b o hc e) (fun b o _ _ hc e _ => ⟨o.slots, k b o hc e⟩) (fun b o _ e n => by rw [zaj (ne b o e)]; exact n)
  (fun b o hc e => ⟨o, k b o hc e⟩) (fun b xs e => by rw [zaj (zam e fresh)]; exact e) (fun b o u e => by rw [zaj (zam e fresh)]; exact e) (fun b ps e => ⟨#[], by rw [zaj (zam e fresh), e]; simp⟩) (fun m hm => ?_) (fun b u e => ?_) I.bare
 ·obtain ⟨f0, f1, f2, f3, f4, f5⟩ := hf b hb
  exact ⟨f3, f1, f4, f5⟩
 ·obtain ⟨o, es, ep, ho, r⟩ := hm
  exact ⟨o, es, ep, k _ o nL ho, r⟩
 ·by_cases hb : b = T0
  ·subst hb
   rw [zal] at e
   cases e
   have ht2 : h'.IsTuple b vals.toList.toArray := by simpa using ht
   exact ⟨hz, vals.toList, hv, ht2⟩
  ·rw [zaj hb] at e
   refine (I.hok b u e).stay (fun c v hc q => k c v ?_ q) (fun c q => by rw [zaj (zam q fresh)]; exact q) fun c xs q => by rw [zaj (zam q fresh)]; exact q
   rcases hc with z | z
   ·rw [z]; exact nw b u e
   ·exact nw c _ z
end
end L2
namespace L2
open PySem PySem.Spec PyProof.Rows
end L2
namespace L2
open PySem PySem.Spec PyProof.Rows
end L2
namespace L2
open PySem
end L2
namespace L2
open PySem PySem.Spec PyProof.Rows
structure ZipAp (z TI TO i1 i2 : Addr) (fp1 fp2 : List Addr) : Prop where
 TIz : TI ≠ z
 TOz : TO ≠ z
 i1z : i1 ≠ z
 i2z : i2 ≠ z
 TITO : TI ≠ TO
 TIi1 : TI ≠ i1
 TIi2 : TI ≠ i2
 TOi1 : TO ≠ i1
 TOi2 : TO ≠ i2
 i12 : i1 ≠ i2
 m1 : i1 ∈ fp1
 m2 : i2 ∈ fp2
 f1 : ∀ b ∈ fp1, b ≠ z /\ b ≠ TO /\ b ≠ i2
 f2 : ∀ b ∈ fp2, b ≠ z /\ b ≠ TO /\ b ≠ i1
end L2
namespace L2
open PySem PySem.Spec PyProof.Rows
end L2
namespace L2
open PySem
end L2
namespace L2
open PySem PySem.Spec PyProof.Rows
inductive D where
 | non | bl (b : Bool) | int (i : Int) | str (l : List Nat) | lst (xs : List D) | tup (xs : List D) | dct (ks vs : List D) | dctT (ks vs : List D) | ins (C : Addr) (ns : List Str) (vs : List D)
noncomputable instance : Inhabited D := ⟨.non⟩
noncomputable instance : DecidableEq D := Classical.typeDecidableEq D
mutual
noncomputable def D.dep : D -> Nat
 | .lst a => D.deps a + 1
 | .tup a => D.deps a + 1
 | _ => 0
noncomputable def D.deps : List D -> Nat
 | [] => 0
 | a :: x => max a.dep (D.deps x)
end
mutual
noncomputable def D.nb : D -> Bool
 | .bl _ => false
 | .dct _ _ => false
 | .dctT _ _ => false
 | .ins _ _ _ => false
 | .lst a => D.nbs a
 | .tup a => D.nbs a
 | _ => true
noncomputable def D.nbs : List D -> Bool
 | [] => true
 | a :: x => a.nb && D.nbs x
end
section
variable (K : PySem.W.Frag) (H : Hp)
mutual
noncomputable def Rep : D -> V -> Prop
 | .non, v => v = .non
 | .bl b, v => v = .bl b
 | .int i, v => v = .int i
 | .str l, v => v = .str (T l) /\ ∀ c ∈ l, c < 128
 | .lst ds, v => ∃ p xs, v = .ref p /\ SqL K H p xs /\ Reps ds xs
 | .tup ds, v => ∃ p xs, v = .ref p /\ SqT K H p xs /\ Reps ds xs
 | .dct ks vs, v => ∃ p kv, v = .ref p /\ H p = some (.dK kv) /\ Reps ks (kv.map fun q => kV q.1) /\ Reps vs (kv.map fun q => q.2)
 | .dctT ks vs, v => ∃ p kv, v = .ref p /\ H p = some (.dT kv) /\ TKs ks (kv.map fun q => q.1) /\ Reps vs (kv.map fun q => q.2)
 | .ins C ns vs, v => ∃ x dx fs, v = .ref x /\ H x = some (.ins C dx fs) /\ H dx = some (.own x) /\ fs.map (fun q => q.1) = ns /\ Reps vs (fs.map fun q => q.2)
noncomputable def TK : D -> List Key -> Prop
 | .tup es, k => Reps es (k.map kV)
 | _, _ => False
noncomputable def TKs : List D -> List (List Key) -> Prop
 | [], ks => ks = []
 | d :: ds, ks => ∃ k r, ks = k :: r /\ TK d k /\ TKs ds r
noncomputable def Reps : List D -> List V -> Prop
 | [], xs => xs = []
 | d :: ds, xs => ∃ x r, xs = x :: r /\ Rep d x /\ Reps ds r
end
end
section
variable {K : PySem.W.Frag} {H H' : Hp}
mutual
theorem Rep.mono (s : Same H H') : ∀ {d : D} {v : V}, Rep K H d v -> Rep K H' d v
 | .non, _, h => by simpa [Rep] using h
 | .bl _, _, h => by simpa [Rep] using h
 | .int _, _, h => by simpa [Rep] using h
 | .str _, _, h => by simpa [Rep] using h
 | .lst ds, _, h => by
  rw [Rep] at h ⊢
  obtain ⟨p, xs, e, q, r⟩ := h
  exact ⟨p, xs, e, SqL.same s q, Reps.mono s r⟩
 | .tup ds, _, h => by
  rw [Rep] at h ⊢
  obtain ⟨p, xs, e, q, r⟩ := h
  exact ⟨p, xs, e, SqT.same s q, Reps.mono s r⟩
 | .dct ks vs, _, h => by
  rw [Rep] at h ⊢
  obtain ⟨p, kv, e, q, r1, r2⟩ := h
  exact ⟨p, kv, e, s _ _ q, Reps.mono s r1, Reps.mono s r2⟩
 | .dctT ks vs, _, h => by
  rw [Rep] at h ⊢
  obtain ⟨p, kv, e, q, r1, r2⟩ := h
  exact ⟨p, kv, e, s _ _ q, TKs.mono s r1, Reps.mono s r2⟩
 | .ins C ns vs, _, h => by
  rw [Rep] at h ⊢
  obtain ⟨x, dx, fs, e, q1, q2, hn, r⟩ := h
  exact ⟨x, dx, fs, e, s _ _ q1, s _ _ q2, hn, Reps.mono s r⟩
theorem TK.mono (s : Same H H') : ∀ {d : D} {k : List Key}, TK K H d k -> TK K H' d k
 | .tup es, _, h => by rw [TK] at h ⊢; exact Reps.mono s h
 | .non, _, h => by simp [TK] at h
 | .bl _, _, h => by simp [TK] at h
 | .int _, _, h => by simp [TK] at h
 | .str _, _, h => by simp [TK] at h
 | .lst _, _, h => by simp [TK] at h
 | .dct _ _, _, h => by simp [TK] at h
 | .dctT _ _, _, h => by simp [TK] at h
 | .ins _ _ _, _, h => by simp [TK] at h
theorem TKs.mono (s : Same H H') : ∀ {ds : List D} {ks : List (List Key)}, TKs K H ds ks -> TKs K H' ds ks
 | [], _, h => by rw [TKs] at h ⊢; exact h
 | d :: ds, _, h => by
  rw [TKs] at h ⊢
  obtain ⟨k, r, e, a, b⟩ := h
  exact ⟨k, r, e, TK.mono s a, TKs.mono s b⟩
theorem Reps.mono (s : Same H H') : ∀ {ds : List D} {xs : List V}, Reps K H ds xs -> Reps K H' ds xs
 | [], _, h => by simpa [Reps] using h
 | d :: ds, _, h => by
  rw [Reps] at h ⊢
  obtain ⟨x, r, e, a, b⟩ := h
  exact ⟨x, r, e, Rep.mono s a, Reps.mono s b⟩
end
theorem Reps.nil : Reps K H [] [] := by rw [Reps]
theorem Reps.cons {d : D} {ds : List D} {x : V} {xs : List V} (a : Rep K H d x) (b : Reps K H ds xs) : Reps K H (d :: ds) (x :: xs) := by rw [Reps]; exact ⟨x, xs, rfl, a, b⟩
theorem Reps.length : ∀ {ds : List D} {xs : List V}, Reps K H ds xs -> ds.length = xs.length
 | [], _, h => by rw [Reps] at h; subst h; rfl
 | d :: ds, _, h => by
  rw [Reps] at h
  obtain ⟨x, r, rfl, _, b⟩ := h
  simp [b.length]
theorem Reps.get : ∀ {ds : List D} {xs : List V} {i : Nat} {x : V}, Reps K H ds xs -> xs[i]? = some x -> ∃ d, ds[i]? = some d /\ Rep K H d x
 | [], _, _, _, h, e => by rw [Reps] at h; subst h; simp at e
 | d :: ds, _, 0, _, h, e => by
  rw [Reps] at h
  obtain ⟨y, r, rfl, a, _⟩ := h
  cases e
  exact ⟨d, rfl, a⟩
 | d :: ds, _, i + 1, _, h, e => by
  rw [Reps] at h
  obtain ⟨y, r, rfl, _, b⟩ := h
  exact Reps.get (i:=i) b e
theorem Reps.get' : ∀ {ds : List D} {xs : List V} {i : Nat} {d : D}, Reps K H ds xs -> ds[i]? = some d -> ∃ x, xs[i]? = some x /\ Rep K H d x := fun {ds xs i d} h e => by
 have hl := h.length
 have hi := (List.getElem?_eq_some_iff.mp e).1
 obtain ⟨d', e', r⟩ := h.get (i:=i) (x:=xs[i]'(by lia)) (List.getElem?_eq_getElem _)
 rw [e] at e'; cases e'
 exact ⟨_, List.getElem?_eq_getElem _, r⟩
theorem Reps.append : ∀ {ds es : List D} {xs ys : List V}, Reps K H ds xs -> Reps K H es ys -> Reps K H (ds ++ es) (xs ++ ys)
 | [], _, _, _, h, h2 => by rw [Reps] at h; subst h; exact h2
 | d :: ds, _, _, _, h, h2 => by
  rw [Reps] at h
  obtain ⟨y, r, rfl, a, b⟩ := h
  exact Reps.cons a (Reps.append b h2)
theorem Reps.snoc {ds : List D} {xs : List V} {d : D} {x : V} (h : Reps K H ds xs) (a : Rep K H d x) : Reps K H (ds ++ [d]) (xs ++ [x]) := h.append (.cons a .nil)
theorem Reps.drop : ∀ (n : Nat) {ds : List D} {xs : List V}, Reps K H ds xs -> Reps K H (ds.drop n) (xs.drop n)
 | 0, _, _, h => h
 | n + 1, [], _, h => by rw [Reps] at h; subst h; exact Reps.nil
 | n + 1, d :: ds, _, h => by
  rw [Reps] at h
  obtain ⟨y, r, rfl, _, b⟩ := h
  exact Reps.drop n b
theorem Reps.take : ∀ (n : Nat) {ds : List D} {xs : List V}, Reps K H ds xs -> Reps K H (ds.take n) (xs.take n)
 | 0, _, _, h => Reps.nil
 | n + 1, [], _, h => by rw [Reps] at h; subst h; exact Reps.nil
 | n + 1, d :: ds, _, h => by
  rw [Reps] at h
  obtain ⟨y, r, rfl, a, b⟩ := h
  exact Reps.cons a (Reps.take n b)
theorem Rep.lst {ds : List D} {p : Addr} {xs : List V} (q : SqL K H p xs) (r : Reps K H ds xs) : Rep K H (.lst ds) (.ref p) := by rw [Rep]; exact ⟨p, xs, rfl, q, r⟩
theorem Rep.tup {ds : List D} {p : Addr} {xs : List V} (q : SqT K H p xs) (r : Reps K H ds xs) : Rep K H (.tup ds) (.ref p) := by rw [Rep]; exact ⟨p, xs, rfl, q, r⟩
theorem Rep.int {i : Int} : Rep K H (.int i) (.int i) := by rw [Rep]
theorem Rep.bl {b : Bool} : Rep K H (.bl b) (.bl b) := by rw [Rep]
theorem Rep.str {l : List Nat} (h : ∀ c ∈ l, c < 128) : Rep K H (.str l) (.str (T l)) := by rw [Rep]; exact ⟨rfl, h⟩
theorem Rep.non : Rep K H .non .non := by rw [Rep]
theorem Rep.of_int {i : Int} {v : V} (h : Rep K H (.int i) v) : v = .int i := by rw [Rep] at h; exact h
theorem Rep.of_bl {b : Bool} {v : V} (h : Rep K H (.bl b) v) : v = .bl b := by rw [Rep] at h; exact h
theorem Rep.of_str {l : List Nat} {v : V} (h : Rep K H (.str l) v) : v = .str (T l) := by rw [Rep] at h; exact h.1
theorem Rep.asc {l : List Nat} {v : V} (h : Rep K H (.str l) v) : ∀ c ∈ l, c < 128 := by rw [Rep] at h; exact h.2
theorem Rep.of_non {v : V} (h : Rep K H .non v) : v = .non := by rw [Rep] at h; exact h
theorem Rep.of_lst {ds : List D} {v : V} (h : Rep K H (.lst ds) v) : ∃ p xs, v = .ref p /\ SqL K H p xs /\ Reps K H ds xs := by rw [Rep] at h; exact h
theorem Rep.of_tup {ds : List D} {v : V} (h : Rep K H (.tup ds) v) : ∃ p xs, v = .ref p /\ SqT K H p xs /\ Reps K H ds xs := by rw [Rep] at h; exact h
theorem Rep.of_dct {ks vs : List D} {v : V} (h : Rep K H (.dct ks vs) v) : ∃ p kv, v = .ref p /\ H p = some (.dK kv) /\ Reps K H ks (kv.map fun q => kV q.1) /\ Reps K H vs (kv.map fun q => q.2) := by rw [Rep] at h; exact h
theorem Rep.of_ins {C : Addr} {ns : List Str} {vs : List D} {v : V} (h : Rep K H (.ins C ns vs) v) : ∃ x dx fs, v = .ref x /\ H x = some (.ins C dx fs) /\ H dx = some (.own x) /\ fs.map (fun q => q.1) = ns /\ Reps K H vs (fs.map fun q => q.2) := by rw [Rep] at h; exact h
end
structure Ext (G H₀ F H : Hp) : Prop where
 gf : Same G F
 fh : Same F H
 hh : Same H₀ H
 no : ∀ b o, H₀ b = some o -> F b = G b
theorem Ext.refl {G H : Hp} (s : Same G H) : Ext G H G H := ⟨Same.refl _, s, Same.refl _, fun _ _ _ => rfl⟩
theorem Ext.trans {G H F1 H1 F2 H2 : Hp} (a : Ext G H F1 H1) (b : Ext F1 H1 F2 H2) : Ext G H F2 H2 :=
 ⟨a.gf.trans b.gf, b.fh, a.hh.trans b.hh, fun c o e => (b.no c o (a.hh c o e)).trans (a.no c o e)⟩
theorem Ext.newF {G H₀ F H : Hp} (x : Ext G H₀ F H) {p : Addr} {o : HO} (hp : H p = none) : Ext G H₀ (upd F p o) (upd H p o) := by
 have fp : F p = none := x.fh.free hp
 refine ⟨x.gf.trans (Same.upd fp), fun b u e => ?_, x.hh.trans (Same.upd hp), fun b u e => ?_⟩
 ·by_cases hb : b = p
  ·subst hb; rw [zal] at e ⊢; exact e
  ·rw [zaj hb] at e ⊢; exact x.fh b u e
 ·have hb : b ≠ p := fun z => by subst z; have := x.hh b u e; rw [hp] at this; cases this
  rw [zaj hb]; exact x.no b u e
theorem Ext.newO {G H₀ F H : Hp} (x : Ext G H₀ F H) {p : Addr} {o : HO} (hp : H p = none) : Ext G H₀ F (upd H p o) :=
 ⟨x.gf, x.fh.trans (Same.upd hp), x.hh.trans (Same.upd hp), x.no⟩
theorem Ext.write {G H₀ F H : Hp} (x : Ext G H₀ F H) {p : Addr} {o : HO} (fp : F p = none) (hp : H₀ p = none) : Ext G H₀ F (upd H p o) :=
 ⟨x.gf, fun b u e => by rw [zaj (zam e fp)]; exact x.fh b u e, fun b u e => by rw [zaj (zam e hp)]; exact x.hh b u e, x.no⟩
theorem Ext.freeze {G H₀ F H : Hp} (x : Ext G H₀ F H) {p : Addr} {o : HO} (fp : F p = none) (hp : H₀ p = none) (e : H p = some o) : Ext G H₀ (upd F p o) H := by
 refine ⟨x.gf.trans (Same.upd fp), fun b u q => ?_, x.hh, fun b u q => ?_⟩
 ·by_cases hb : b = p
  ·subst hb; rw [zal] at q; cases q; exact e
  ·rw [zaj hb] at q; exact x.fh b u q
 ·rw [zaj (zam q hp)]; exact x.no b u q
inductive Sl where
 | un | d (x : D) | o (p : Addr) (xs : List D) | oo (p : Addr) (qs : List (Addr × List D)) | g (v : V) (as : List Addr) (W : Hp -> Hp -> Prop)
noncomputable def Sl.ads : Sl -> List Addr
 | .un => [] | .d _ => [] | .o p _ => [p] | .oo p qs => p :: qs.map (·.1) | .g _ as _ => as
noncomputable def OwnL (K : PySem.W.Frag) (H₀ F H : Hp) (p : Addr) (xs : List D) : Prop := H₀ p = none /\ F p = none /\ ∃ vs, H p = some (.lst vs) /\ Reps K F xs vs
noncomputable def Stab (as : List Addr) (W : Hp -> Hp -> Prop) : Prop := ∀ F1 H1 F2 H2 : Hp, Same F1 F2 -> (∀ a ∈ as, H2 a = H1 a) -> W F1 H1 -> W F2 H2
noncomputable def SlOk (K : PySem.W.Frag) (H₀ F H : Hp) (ov : Option V) : Sl -> Prop
 | .un => True
 | .d x => ∃ v, ov = some v /\ Rep K F x v
 | .o p xs => ov = some (.ref p) /\ OwnL K H₀ F H p xs
 | .oo p qs => ov = some (.ref p) /\ H₀ p = none /\ F p = none /\ H p = some (.lst (qs.map fun q => V.ref q.1)) /\ ∀ q ∈ qs, OwnL K H₀ F H q.1 q.2
 | .g v as W => ov = some v /\ (∀ a ∈ as, H₀ a = none /\ F a = none /\ ∃ o, H a = some o) /\ W F H /\ Stab as W
structure Sat (K : PySem.W.Frag) (G H₀ L F H : Hp) (σ : St) (ss : List Sl) : Prop where
 ext : Ext G H₀ F H
 fl : Same L F
 len : σ.length = ss.length
 ok : ∀ (i : Nat) s, ss[i]? = some s -> SlOk K H₀ F H (σ.getD i none) s
 nd : ∀ (i : Nat) s, ss[i]? = some s -> s.ads.Nodup
 ne : ∀ (i j : Nat) s s', i ≠ j -> ss[i]? = some s -> ss[j]? = some s' -> ∀ p ∈ s.ads, p ∉ s'.ads
section
variable {K : PySem.W.Frag} {H₀ F H F' H' : Hp}
theorem OwnL.ext2 {p : Addr} {xs : List D} (h : OwnL K H₀ F H p xs) (e : Ext F H F' H') : OwnL K H₀ F' H' p xs := by
 obtain ⟨h0, fp, vs, hp, r⟩ := h
 exact ⟨h0, (e.no p _ hp).trans fp, vs, e.hh p _ hp, r.mono e.gf⟩
theorem SlOk.ext2 {ov : Option V} {s : Sl} (h : SlOk K H₀ F H ov s) (e : Ext F H F' H') : SlOk K H₀ F' H' ov s := by
 cases s with
 | un => trivial
 | d x => obtain ⟨v, ev, r⟩ := h; exact ⟨v, ev, r.mono e.gf⟩
 | o p xs => exact ⟨h.1, h.2.ext2 e⟩
 | oo p qs =>
  obtain ⟨ev, h0, fp, hp, hq⟩ := h
  exact ⟨ev, h0, (e.no p _ hp).trans fp, e.hh p _ hp, fun q hm => (hq q hm).ext2 e⟩
 | g v as W =>
  obtain ⟨ev, ha, hw, st⟩ := h
  refine ⟨ev, fun a hm => ?_, st _ _ _ _ e.gf (fun a hm => ?_) hw, st⟩
  ·obtain ⟨h0, fa, o, ho⟩ := ha a hm
   exact ⟨h0, (e.no a _ ho).trans fa, o, e.hh a _ ho⟩
  ·obtain ⟨h0, fa, o, ho⟩ := ha a hm
   rw [e.hh a _ ho, ho]
theorem OwnL.updNe {p a : Addr} {o : HO} {xs : List D} (h : OwnL K H₀ F H p xs) (hn : p ≠ a) : OwnL K H₀ F (upd H a o) p xs := by
 obtain ⟨h0, fp, vs, hp, r⟩ := h
 exact ⟨h0, fp, vs, by rw [zaj hn]; exact hp, r⟩
theorem SlOk.updNe {ov : Option V} {s : Sl} {a : Addr} {o : HO} (h : SlOk K H₀ F H ov s) (hn : a ∉ s.ads) : SlOk K H₀ F (upd H a o) ov s := by
 cases s with
 | un => trivial
 | d x => exact h
 | o p xs => exact ⟨h.1, h.2.updNe fun z => hn (by simp [Sl.ads, z])⟩
 | oo p qs =>
  obtain ⟨ev, h0, fp, hp, hq⟩ := h
  refine ⟨ev, h0, fp, by rw [zaj fun z => hn (by simp [Sl.ads, z])]; exact hp, fun q hm => (hq q hm).updNe fun z => hn ?_⟩
  rw [<- z]
  exact List.mem_cons_of_mem _ (List.mem_map_of_mem hm)
 | g v as W =>
  obtain ⟨ev, ha, hw, st⟩ := h
  have hne : ∀ b ∈ as, b ≠ a := fun b hm z => hn (by rw [<- z]; exact hm)
  refine ⟨ev, fun b hm => ?_, st _ _ _ _ (Same.refl _) (fun b hm => zaj (hne b hm)) hw, st⟩
  obtain ⟨h0, fa, x, ho⟩ := ha b hm
  exact ⟨h0, fa, x, by rw [zaj (hne b hm)]; exact ho⟩
theorem OwnL.frz {p a : Addr} {o : HO} {xs : List D} (h : OwnL K H₀ F H p xs) (fa : F a = none) (hn : p ≠ a) : OwnL K H₀ (upd F a o) H p xs := by
 obtain ⟨h0, fp, vs, hp, r⟩ := h
 exact ⟨h0, by rw [zaj hn]; exact fp, vs, hp, r.mono (Same.upd fa)⟩
theorem SlOk.frz {ov : Option V} {s : Sl} {a : Addr} {o : HO} (h : SlOk K H₀ F H ov s) (fa : F a = none) (hn : a ∉ s.ads) : SlOk K H₀ (upd F a o) H ov s := by
 cases s with
 | un => trivial
 | d x => obtain ⟨v, ev, r⟩ := h; exact ⟨v, ev, r.mono (Same.upd fa)⟩
 | o p xs => exact ⟨h.1, h.2.frz fa fun z => hn (by simp [Sl.ads, z])⟩
 | oo p qs =>
  obtain ⟨ev, h0, fp, hp, hq⟩ := h
  refine ⟨ev, h0, by rw [zaj fun z => hn (by simp [Sl.ads, z])]; exact fp, hp, fun q hm => (hq q hm).frz fa fun z => hn ?_⟩
  rw [<- z]
  exact List.mem_cons_of_mem _ (List.mem_map_of_mem hm)
 | g v as W =>
  obtain ⟨ev, ha, hw, st⟩ := h
  have hne : ∀ b ∈ as, b ≠ a := fun b hm z => hn (by rw [<- z]; exact hm)
  refine ⟨ev, fun b hm => ?_, st _ _ _ _ (Same.upd fa) (fun _ _ => rfl) hw, st⟩
  obtain ⟨h0, fb, x, ho⟩ := ha b hm
  exact ⟨h0, by rw [zaj (hne b hm)]; exact fb, x, ho⟩
theorem SlOk.live {ov : Option V} {s : Sl} (h : SlOk K H₀ F H ov s) {p : Addr} (hp : p ∈ s.ads) : H p ≠ none := by
 cases s with
 | un => simp [Sl.ads] at hp
 | d x => simp [Sl.ads] at hp
 | o q xs =>
  obtain ⟨_, _, _, vs, hq, _⟩ := h
  simp [Sl.ads] at hp; subst hp; rw [hq]; simp
 | oo q qs =>
  obtain ⟨ev, h0, fp, hq, hqs⟩ := h
  rcases List.mem_cons.mp hp with rfl | hp
  ·rw [hq]; simp
  ·obtain ⟨r, hr, rfl⟩ := List.mem_map.mp hp
   obtain ⟨_, _, vs, hv, _⟩ := hqs r hr
   rw [hv]; simp
 | g v as W =>
  obtain ⟨ev, ha, hw, st⟩ := h
  obtain ⟨_, _, x, ho⟩ := ha p hp
  rw [ho]; simp
end
end L2
namespace L2
open PySem PySem.Spec PyProof.Rows
section
variable {K : PySem.W.Frag} {G H₀ L F H F' H' : Hp} {σ : St} {ss : List Sl}
theorem Sat.ext2 (S : Sat K G H₀ L F H σ ss) (e : Ext F H F' H') : Sat K G H₀ L F' H' σ ss :=
 ⟨S.ext.trans e, S.fl.trans e.gf, S.len, fun i s hs => (S.ok i s hs).ext2 e, S.nd, S.ne⟩
theorem Sat.get (S : Sat K G H₀ L F H σ ss) {i : Nat} {s : Sl} (hs : ss[i]? = some s) (hn : s ≠ .un) : ∃ v, σ[i]? = some (some v) /\ SlOk K H₀ F H (some v) s := by
 have hi : i < σ.length := by rw [S.len]; exact (List.getElem?_eq_some_iff.mp hs).1
 have := S.ok i s hs
 rw [List.getD_eq_getElem?_getD, List.getElem?_eq_getElem hi] at this
 simp only [Option.getD_some] at this
 cases hv : σ[i] with
 | none =>
  rw [hv] at this
  cases s with
  | un => exact absurd rfl hn
  | d x => obtain ⟨v, ev, _⟩ := this; cases ev
  | o p xs => obtain ⟨ev, _⟩ := this; cases ev
  | oo p qs => obtain ⟨ev, _⟩ := this; cases ev
  | g v as W => obtain ⟨ev, _⟩ := this; cases ev
 | some v =>
  rw [hv] at this
  exact ⟨v, by rw [List.getElem?_eq_getElem hi, hv], this⟩
theorem Sat.getD (S : Sat K G H₀ L F H σ ss) {i : Nat} {x : D} (hs : ss[i]? = some (.d x)) : ∃ v, σ[i]? = some (some v) /\ Rep K F x v := by
 obtain ⟨v, e, w, ew, r⟩ := S.get hs (by intro z; cases z)
 cases ew
 exact ⟨v, e, r⟩
theorem Sat.getO (S : Sat K G H₀ L F H σ ss) {i : Nat} {p : Addr} {xs : List D} (hs : ss[i]? = some (.o p xs)) : σ[i]? = some (some (.ref p)) /\ OwnL K H₀ F H p xs := by
 obtain ⟨v, e, ew, r⟩ := S.get hs (by intro z; cases z)
 cases ew
 exact ⟨e, r⟩
theorem zc8 {σ : St} {i : Nat} {v : Option V} (h : i < σ.length) : (σ.set i v).getD i none = v := by
 rw [List.getD_eq_getElem?_getD, List.getElem?_set_self h]; rfl
theorem zdc {σ : St} {i j : Nat} {v : Option V} (h : i ≠ j) : (σ.set i v).getD j none = σ.getD j none := by
 rw [List.getD_eq_getElem?_getD, List.getElem?_set_ne h, List.getD_eq_getElem?_getD]
theorem zdp {i j : Nat} {s t : Sl} (h : (ss.set i s)[j]? = some t) : (i = j /\ t = s /\ i < ss.length) \/ (i ≠ j /\ ss[j]? = some t) := by
 by_cases hj : i = j
 ·subst hj
  have hi := (List.getElem?_eq_some_iff.mp h).1
  rw [List.length_set] at hi
  rw [List.getElem?_set_self hi] at h
  exact .inl ⟨rfl, (Option.some.inj h).symm, hi⟩
 ·rw [List.getElem?_set_ne hj] at h; exact .inr ⟨hj, h⟩
theorem Sat.put {σ' : St} (S : Sat K G H₀ L F H σ ss) {i : Nat} {s : Sl} (ex : Ext G H₀ F' H') (fl : Same L F') (hl : σ'.length = σ.length) (hσ : ∀ j, j ≠ i -> σ'.getD j none = σ.getD j none) (hi : i < ss.length -> SlOk K H₀ F' H' (σ'.getD i none) s)
  (nd : s.ads.Nodup) (dj : ∀ (j : Nat) s', j ≠ i -> ss[j]? = some s' -> ∀ p ∈ s.ads, p ∉ s'.ads) (st : ∀ (j : Nat) s', j ≠ i -> ss[j]? = some s' -> SlOk K H₀ F' H' (σ.getD j none) s') : Sat K G H₀ L F' H' σ' (ss.set i s) := by
 refine ⟨ex, fl, by rw [List.length_set, hl, S.len], fun j t ht => ?_, fun j t ht => ?_, fun j k t u hjk ht hu => ?_⟩
 ·rcases zdp ht with ⟨rfl, rfl, hlt⟩ | ⟨hj, ht⟩
  ·exact hi hlt
  ·rw [hσ j (Ne.symm hj)]; exact st j t (Ne.symm hj) ht
 ·rcases zdp ht with ⟨rfl, rfl, _⟩ | ⟨hj, ht⟩
  ·exact nd
  ·exact S.nd j t ht
 ·rcases zdp ht with ⟨rfl, rfl, _⟩ | ⟨hj, ht'⟩
  ·rcases zdp hu with ⟨rfl, rfl, _⟩ | ⟨hk, hu'⟩
   ·exact absurd rfl hjk
   ·exact dj k u (Ne.symm hk) hu'
  ·rcases zdp hu with ⟨rfl, rfl, _⟩ | ⟨hk, hu'⟩
   ·exact fun p hp hp' => dj j t (Ne.symm hj) ht' p hp' hp
   ·exact S.ne j k t u hjk ht' hu'
theorem Sat.setD (S : Sat K G H₀ L F H σ ss) {i : Nat} {x : D} {v : V} (r : Rep K F x v) : Sat K G H₀ L F H (σ.set i (some v)) (ss.set i (.d x)) :=
 S.put S.ext S.fl (by simp) (fun j hj => zdc (Ne.symm hj)) (fun hi => by rw [zc8 (by rw [S.len]; exact hi)]; exact ⟨v, rfl, r⟩) (by simp [Sl.ads]) (fun _ _ _ _ p hp => by simp [Sl.ads] at hp) fun j s' _ h => S.ok j s' h
theorem Sat.setO (S : Sat K G H₀ L F H σ ss) {i : Nat} {xs : List D} {p : Addr} (r : OwnL K H₀ F H p xs) (hne : ∀ (j : Nat) s', j ≠ i -> ss[j]? = some s' -> p ∉ s'.ads) : Sat K G H₀ L F H (σ.set i (some (.ref p))) (ss.set i (.o p xs)) :=
 S.put S.ext S.fl (by simp) (fun j hj => zdc (Ne.symm hj)) (fun hi => by rw [zc8 (by rw [S.len]; exact hi)]; exact ⟨rfl, r⟩) (by simp [Sl.ads]) (fun j s' hj h q hq => by simp [Sl.ads] at hq; subst hq; exact hne j s' hj h) fun j s' _ h => S.ok j s' h
theorem Sat.write (S : Sat K G H₀ L F H σ ss) {i : Nat} {xs ys : List D} {p : Addr} {vs : List V} (hs : ss[i]? = some (.o p xs)) (r : Reps K F ys vs) : Sat K G H₀ L F (upd H p (.lst vs)) σ (ss.set i (.o p ys)) := by
 obtain ⟨e, h0, fp, ws, hp, _⟩ := S.getO hs
 have hget : σ.getD i none = some (.ref p) := by rw [List.getD_eq_getElem?_getD, e]; rfl
 refine S.put (S.ext.write fp h0) S.fl rfl (fun _ _ => rfl) (fun _ => by rw [hget]; exact ⟨rfl, h0, fp, vs, zal, r⟩) (by simp [Sl.ads]) (fun j s' hj h q hq => ?_) fun j s' hj h => (S.ok j s' h).updNe (S.ne i j _ s' (Ne.symm hj) hs h p (by simp [Sl.ads]))
 simp [Sl.ads] at hq; subst hq
 exact S.ne i j _ s' (Ne.symm hj) hs h q (by simp [Sl.ads])
theorem Sat.freeze (S : Sat K G H₀ L F H σ ss) {i : Nat} {p : Addr} {xs : List D} (hs : ss[i]? = some (.o p xs)) : ∃ F', Sat K G H₀ L F' H σ (ss.set i (.d (.lst xs))) := by
 obtain ⟨e, h0, fp, vs, hp, r⟩ := S.getO hs
 have hget : σ.getD i none = some (.ref p) := by rw [List.getD_eq_getElem?_getD, e]; rfl
 exact ⟨upd F p (.lst vs), S.put (S.ext.freeze fp h0 hp) (S.fl.trans (Same.upd fp)) rfl (fun _ _ => rfl) (fun _ => by rw [hget]; exact ⟨_, rfl, Rep.lst (SqL.of zal) (r.mono (Same.upd fp))⟩) (by simp [Sl.ads]) (fun _ _ _ _ q hq => by simp [Sl.ads] at hq)
  fun j s' hj h => (S.ok j s' h).frz fp (S.ne i j _ s' (Ne.symm hj) hs h p (by simp [Sl.ads]))⟩
theorem Sat.raise (S : Sat K G H₀ L F H σ ss) : Sat K G H₀ F F H σ ss := ⟨S.ext, Same.refl _, S.len, S.ok, S.nd, S.ne⟩
theorem Sat.lower {L' : Hp} (S : Sat K G H₀ L' F H σ ss) (h : Same L L') : Sat K G H₀ L F H σ ss := ⟨S.ext, h.trans S.fl, S.len, S.ok, S.nd, S.ne⟩
end
section
variable (K : PySem.W.Frag) (G H₀ L : Hp) (ss : List Sl)
noncomputable def Ev (t : TE) (d : D) : Prop := ∀ F H σ Q, Sat K G H₀ L F H σ ss -> (∀ v F' H', Ext F H F' H' -> Rep K F' d v -> Q v H') -> t σ H Q
noncomputable def EvO (t : TE) (ds : List D) : Prop := ∀ F H σ Q, Sat K G H₀ L F H σ ss -> (∀ p vs F' H', Ext F H F' H' -> H p = none -> F' p = none -> H' p = some (.lst vs) -> Reps K F' ds vs -> Q (.ref p) H') -> t σ H Q
noncomputable def EvL (t : TE) (ds : List D) : Prop := ∀ F H σ Q, Sat K G H₀ L F H σ ss -> (∀ p vs F' H', Ext F H F' H' -> SqL K H' p vs -> Reps K F' ds vs -> Q (.ref p) H') -> t σ H Q
noncomputable def EvB (t : TE) (d : D) : Prop := ∀ F H σ Q, Sat K G H₀ L F H σ ss -> (∀ v F' H', Ext F H F' H' -> Rep K H' d v -> Q v H') -> t σ H Q
noncomputable def EvT (t : TT) (b : Bool) : Prop := ∀ F H σ (Q : Bool -> Hp -> Prop), Sat K G H₀ L F H σ ss -> (∀ F' H', Ext F H F' H' -> Q b H') -> t σ H Q
noncomputable def EvA (t : TA) (ds : List D) : Prop := ∀ F H σ (Q : List V -> Hp -> Prop), Sat K G H₀ L F H σ ss -> (∀ vs F' H', Ext F H F' H' -> Reps K H' ds vs -> Q vs H') -> t σ H Q
noncomputable def EvAF (t : TA) (ds : List D) : Prop := ∀ F H σ (Q : List V -> Hp -> Prop), Sat K G H₀ L F H σ ss -> (∀ vs F' H', Ext F H F' H' -> Reps K F' ds vs -> Q vs H') -> t σ H Q
end
section
variable {K : PySem.W.Frag} {G H₀ L : Hp} {ss : List Sl} {t ta tb : TE} {d d1 d2 : D} {ds es : List D}
theorem EvO.ev (h : EvO K G H₀ L ss t ds) : Ev K G H₀ L ss t (.lst ds) := fun F H σ Q S q => h F H σ Q S fun p vs F' H' e hp fp hp' r => q _ _ _ (e.freeze fp hp hp') (Rep.lst (SqL.of zal) (r.mono (Same.upd fp)))
theorem EvO.l (h : EvO K G H₀ L ss t ds) : EvL K G H₀ L ss t ds := fun F H σ Q S q => h F H σ Q S fun p vs F' H' e hp fp hp' r => q _ _ _ _ e (SqL.of hp') r
theorem Ev.l (h : Ev K G H₀ L ss t (.lst ds)) : EvL K G H₀ L ss t ds := fun F H σ Q S q => h F H σ Q S fun v F' H' e r => by
 obtain ⟨p, xs, rfl, sq, rs⟩ := r.of_lst
 exact q _ _ _ _ e (SqL.same e.fh sq) rs
theorem Ev.b (h : Ev K G H₀ L ss t d) : EvB K G H₀ L ss t d := fun F H σ Q S q => h F H σ Q S fun v F' H' e r => q _ _ _ e (r.mono e.fh)
theorem EvL.b (h : EvL K G H₀ L ss t ds) : EvB K G H₀ L ss t (.lst ds) := fun F H σ Q S q => h F H σ Q S fun p vs F' H' e sq r => q _ _ _ e (Rep.lst sq (r.mono e.fh))
theorem zad {i : Nat} (hs : ss[i]? = some (.d d)) : Ev K G H₀ L ss (tVar i) d := fun F H σ Q S q => by
 obtain ⟨v, e, r⟩ := S.getD hs
 exact ⟨v, e, q _ _ _ (Ext.refl S.ext.fh) r⟩
theorem zdr {i : Nat} {p : Addr} (hs : ss[i]? = some (.o p ds)) : EvL K G H₀ L ss (tVar i) ds := fun F H σ Q S q => by
 obtain ⟨e, h0, fp, vs, hp, r⟩ := S.getO hs
 exact ⟨.ref p, e, q _ _ _ _ (Ext.refl S.ext.fh) (SqL.of hp) r⟩
theorem zai {i : Int} : Ev K G H₀ L ss (tC (.int i)) (.int i) := fun F H σ Q S q => q _ _ _ (Ext.refl S.ext.fh) Rep.int
theorem zyj {b : Bool} : Ev K G H₀ L ss (tC (.bl b)) (.bl b) := fun F H σ Q S q => q _ _ _ (Ext.refl S.ext.fh) Rep.bl
theorem zt9 : Ev K G H₀ L ss (tC .non) .non := fun F H σ Q S q => q _ _ _ (Ext.refl S.ext.fh) Rep.non
theorem za5 {x : Str} {l : List Nat} (h : x = T l) (ha : ∀ c ∈ l, c < 128) : Ev K G H₀ L ss (tC (.str x)) (.str l) := fun F H σ Q S q => by subst h; exact q _ _ _ (Ext.refl S.ext.fh) (Rep.str ha)
theorem zcu {r : R2} {w : V} (a : EvB K G H₀ L ss ta d1) (b : EvB K G H₀ L ss tb d2) (hr : ∀ H x y (Q : VK), Rep K H d1 x -> Rep K H d2 y -> Q w H -> r x y H Q) (hw : ∀ F H x y, Rep K H d1 x -> Rep K H d2 y -> Rep K F d w) : Ev K G H₀ L ss (tOp r ta tb) d := fun F H σ Q S q =>
 a F H σ _ S fun x F1 H1 e1 r1 => b F1 H1 σ _ (S.ext2 e1) fun y F2 H2 e2 r2 => hr H2 x y Q (r1.mono e2.hh) r2 (q _ _ _ (e1.trans e2) (hw _ _ _ _ (r1.mono e2.hh) r2))
theorem zfc {i j : Int} (a : EvB K G H₀ L ss ta (.int i)) (b : EvB K G H₀ L ss tb (.int j)) : Ev K G H₀ L ss (tOp (rI0 fun i j => .int (i + j)) ta tb) (.int (i + j)) :=
 zcu a b (fun H x y Q r1 r2 q => ⟨i, j, r1.of_int, r2.of_int, q⟩) fun _ _ _ _ _ _ => Rep.int
theorem zw1 {i j : Int} (a : EvB K G H₀ L ss ta (.int i)) (b : EvB K G H₀ L ss tb (.int j)) : Ev K G H₀ L ss (tOp (rI0 fun i j => .int (i - j)) ta tb) (.int (i - j)) :=
 zcu a b (fun H x y Q r1 r2 q => ⟨i, j, r1.of_int, r2.of_int, q⟩) fun _ _ _ _ _ _ => Rep.int
theorem zp7 {C : Int -> Int -> Prop} {g : Int -> Int -> Int} {i j : Int} (a : EvB K G H₀ L ss ta (.int i)) (b : EvB K G H₀ L ss tb (.int j)) (hC : C i j) : Ev K G H₀ L ss (tOp (rI C fun i j => .int (g i j)) ta tb) (.int (g i j)) :=
 zcu a b (fun H x y Q r1 r2 q => ⟨i, j, r1.of_int, r2.of_int, hC, q⟩) fun _ _ _ _ _ _ => Rep.int
theorem zo8 {g : Int -> Int -> Bool} {i j : Int} (a : EvB K G H₀ L ss ta (.int i)) (b : EvB K G H₀ L ss tb (.int j)) : Ev K G H₀ L ss (tOp (rI0 fun i j => .bl (g i j)) ta tb) (.bl (g i j)) :=
 zcu a b (fun H x y Q r1 r2 q => ⟨i, j, r1.of_int, r2.of_int, q⟩) fun _ _ _ _ _ _ => Rep.bl
theorem zna {i j : Int} (a : EvB K G H₀ L ss ta (.int i)) (b : EvB K G H₀ L ss tb (.int j)) : Ev K G H₀ L ss (tOp rEq ta tb) (.bl (decide (i = j))) :=
 zcu (w:=.bl (decide (i = j))) a b (fun H x y Q r1 r2 q => by rw [r1.of_int, r2.of_int]; exact ⟨rfl, by simpa using q⟩) fun _ _ _ _ _ _ => Rep.bl
theorem zyg {i j : Int} (a : EvB K G H₀ L ss ta (.int i)) (b : EvB K G H₀ L ss tb (.int j)) : Ev K G H₀ L ss (tOp rNe ta tb) (.bl (!decide (i = j))) :=
 zcu (w:=.bl (!decide (i = j))) a b (fun H x y Q r1 r2 q => by rw [r1.of_int, r2.of_int]; exact ⟨rfl, by simpa using q⟩) fun _ _ _ _ _ _ => Rep.bl
theorem zul {l m : List Nat} (a : EvB K G H₀ L ss ta (.str l)) (b : EvB K G H₀ L ss tb (.str m)) : Ev K G H₀ L ss (tOp rEq ta tb) (.bl (decide (l = m))) :=
 zcu (w:=.bl (decide (l = m))) a b (fun H x y Q r1 r2 q => by rw [r1.of_str, r2.of_str]; exact ⟨rfl, by rw [zmd]; exact q⟩) fun _ _ _ _ _ _ => Rep.bl
theorem zwt {l m : List Nat} (a : EvB K G H₀ L ss ta (.str l)) (b : EvB K G H₀ L ss tb (.str m)) : Ev K G H₀ L ss (tOp rNe ta tb) (.bl (!decide (l = m))) :=
 zcu (w:=.bl (!decide (l = m))) a b (fun H x y Q r1 r2 q => by rw [r1.of_str, r2.of_str]; exact ⟨rfl, by rw [zmd]; exact q⟩) fun _ _ _ _ _ _ => Rep.bl
theorem zda {l m : List Nat} (a : EvB K G H₀ L ss ta (.str l)) (b : EvB K G H₀ L ss tb (.str m)) (hz : l.length + m.length <= sizeLine) :
  Ev K G H₀ L ss (tOp (fun x y H Q => ∃ i j, x = .str i /\ y = .str j /\ i.length + j.length <= sizeLine /\ Q (.str (i ++ j)) H) ta tb) (.str (l ++ m)) :=
 zcu (w:=.str (T (l ++ m))) a b (fun H x y Q r1 r2 q => ⟨_, _, r1.of_str, r2.of_str, by rw [zbl, zbl]; exact hz, by rw [zvn]; exact q⟩) fun _ _ _ _ r1 r2 => Rep.str fun c hc => (List.mem_append.mp hc).elim (r1.asc c) (r2.asc c)
theorem zvu {α : Type} {xs : List α} {i : Int} {x : α} (h : atI xs i = some x) : x ∈ xs := by
 unfold atI at h
 cases hx : ixN xs.length i with
 | none => rw [hx] at h; cases h
 | some j => rw [hx] at h; exact List.mem_of_getElem? h
theorem zmc {l : List Nat} {i : Int} {c : Nat} (a : EvB K G H₀ L ss ta (.str l)) (b : EvB K G H₀ L ss tb (.int i)) (hz : l.length <= sizeLine) (hc : atI l i = some c) : Ev K G H₀ L ss (tOp rIxS ta tb) (.str [c]) :=
 zcu (w:=.str (T [c])) a b (fun H x y Q r1 r2 q => ⟨_, _, c, r1.of_str, r2.of_int, by rw [zbl]; exact hz, by rw [zdh]; exact hc, q⟩) fun _ _ _ _ r1 r2 => Rep.str fun c' hc' => by
  rw [List.mem_singleton.mp hc']
  exact r1.asc c (zvu hc)
theorem Reps.atI {H : Hp} {ds : List D} {vs : List V} {i : Int} {d : D} (r : Reps K H ds vs) (h : L2.atI ds i = some d) : ∃ v, L2.atI vs i = some v /\ Rep K H d v := by
 unfold L2.atI at h ⊢
 rw [r.length] at h
 cases hx : ixN vs.length i with
 | none => rw [hx] at h; cases h
 | some j => rw [hx] at h; exact r.get' h
theorem zcf {i : Int} (a : EvL K G H₀ L ss ta ds) (b : EvB K G H₀ L ss tb (.int i)) (hc : atI ds i = some d) : Ev K G H₀ L ss (tOp (rIxL K) ta tb) d := fun F H σ Q S q =>
 a F H σ _ S fun p vs F1 H1 e1 sq r1 => b F1 H1 σ _ (S.ext2 e1) fun y F2 H2 e2 r2 => by
  obtain ⟨v, hv, rv⟩ := r1.atI hc
  exact ⟨p, vs, i, v, rfl, r2.of_int, SqL.same e2.hh sq, hv, q _ _ _ (e1.trans e2) (rv.mono e2.gf)⟩
theorem zv2 : EvA K G H₀ L ss tNil [] := fun F H σ Q S q => q _ _ _ (Ext.refl S.ext.fh) Reps.nil
theorem ztk {t : TA} (a : EvB K G H₀ L ss ta d) (b : EvA K G H₀ L ss t ds) : EvA K G H₀ L ss (zbe ta t) (d :: ds) := fun F H σ Q S q =>
 a F H σ _ S fun x F1 H1 e1 r1 => b F1 H1 σ _ (S.ext2 e1) fun vs F2 H2 e2 r2 => q _ _ _ (e1.trans e2) (Reps.cons (r1.mono e2.hh) r2)
theorem zaf : EvAF K G H₀ L ss tNil [] := fun F H σ Q S q => q _ _ _ (Ext.refl S.ext.fh) Reps.nil
theorem zab {t : TA} (a : Ev K G H₀ L ss ta d) (b : EvAF K G H₀ L ss t ds) : EvAF K G H₀ L ss (zbe ta t) (d :: ds) := fun F H σ Q S q =>
 a F H σ _ S fun x F1 H1 e1 r1 => b F1 H1 σ _ (S.ext2 e1) fun vs F2 H2 e2 r2 => q _ _ _ (e1.trans e2) (Reps.cons (r1.mono e2.gf) r2)
theorem zgf {t : TA} (a : EvAF K G H₀ L ss t ds) (hz : ds.length <= sizeLine) : Ev K G H₀ L ss (tTup t) (.tup ds) := fun F H σ Q S q =>
 a F H σ _ S fun vs F1 H1 e1 r1 => ⟨by rw [<- r1.length]; exact hz, fun p hp => q _ _ _ (e1.newF hp) (Rep.tup (SqT.of zal) (r1.mono (Same.upd (e1.fh.free hp))))⟩
theorem zc9 {t : TA} (a : EvAF K G H₀ L ss t ds) (hz : ds.length <= sizeLine) : EvO K G H₀ L ss (tLst t) ds := fun F H σ Q S q =>
 a F H σ _ S fun vs F1 H1 e1 r1 => ⟨by rw [<- r1.length]; exact hz, fun p hp => q p vs F1 _ (e1.newO hp) (e1.hh.free hp) (e1.fh.free hp) zal r1⟩
theorem zbn {b : Bool} (a : Ev K G H₀ L ss t (.bl b)) : EvT K G H₀ L ss (zwb t) b := fun F H σ Q S q => a F H σ _ S fun v F' H' e r => ⟨b, r.of_bl, q _ _ e⟩
theorem zg9 {b : Bool} (a : Ev K G H₀ L ss t (.bl b)) : EvT K G H₀ L ss (tB t) b := fun F H σ Q S q => a F H σ _ S fun v F' H' e r => ⟨b, r.of_bl, q _ _ e⟩
theorem zez {u : TT} {b : Bool} (a : EvT K G H₀ L ss u b) : EvT K G H₀ L ss (tNot u) (!b) := fun F H σ Q S q => a F H σ _ S fun F' H' e => q _ _ e
theorem zgt {u v : TT} {b c : Bool} (a : EvT K G H₀ L ss u b) (h : b = true -> EvT K G H₀ L ss v c) : EvT K G H₀ L ss (tAnd u v) (b && c) := fun F H σ Q S q => a F H σ _ S fun F' H' e => by
 cases b with
 | false => exact iteF (q _ _ e)
 | true => exact iteT (h rfl _ _ _ _ (S.ext2 e) fun F'' H'' e' => q _ _ (e.trans e'))
theorem zkp {u v : TT} {b c : Bool} (a : EvT K G H₀ L ss u b) (h : b = false -> EvT K G H₀ L ss v c) : EvT K G H₀ L ss (tOr u v) (b || c) := fun F H σ Q S q => a F H σ _ S fun F' H' e => by
 cases b with
 | true => exact iteT (q _ _ e)
 | false => exact iteF (h rfl _ _ _ _ (S.ext2 e) fun F'' H'' e' => q _ _ (e.trans e'))
theorem zkm {b c : Bool} (a : Ev K G H₀ L ss ta (.bl b)) (h : b = true -> Ev K G H₀ L ss tb (.bl c)) : Ev K G H₀ L ss (zwk ta tb) (.bl (b && c)) := fun F H σ Q S q => a F H σ _ S fun v F' H' e r => by
 refine ⟨b, r.of_bl, ?_⟩
 cases b with
 | false => exact iteF (q _ _ _ e Rep.bl)
 | true => exact iteT (h rfl _ _ _ _ (S.ext2 e) fun v F'' H'' e' r' => q _ _ _ (e.trans e') r')
theorem zyt {b c : Bool} (a : Ev K G H₀ L ss ta (.bl b)) (h : b = false -> Ev K G H₀ L ss tb (.bl c)) : Ev K G H₀ L ss (tOrV ta tb) (.bl (b || c)) := fun F H σ Q S q => a F H σ _ S fun v F' H' e r => by
 refine ⟨b, r.of_bl, ?_⟩
 cases b with
 | true => exact iteT (q _ _ _ e Rep.bl)
 | false => exact iteF (h rfl _ _ _ _ (S.ext2 e) fun v F'' H'' e' r' => q _ _ _ (e.trans e') r')
theorem zxe {b : Bool} (a : Ev K G H₀ L ss ta (.bl b)) : Ev K G H₀ L ss (zx3 ta) (.bl (!b)) := fun F H σ Q S q => a F H σ _ S fun v F' H' e r => ⟨b, r.of_bl, q _ _ _ e Rep.bl⟩
end
end L2
namespace L2
open PySem PySem.Spec PyProof.Rows
noncomputable def SpD (K : PySem.W.Frag) (pre : List D -> Prop) (res : List D -> D) : Sp := fun vs H Q _ => ∃ G ds, Same G H /\ Reps K G ds vs /\ pre ds /\ ∀ v G' H', Ext G H G' H' -> Rep K G' (res ds) v -> Q v H'
noncomputable def SpO (K : PySem.W.Frag) (pre : List D -> Prop) (res : List D -> List D) : Sp := fun vs H Q _ => ∃ G ds, Same G H /\ Reps K G ds vs /\ pre ds /\ ∀ p ws G' H', Ext G H G' H' -> H p = none -> G' p = none -> H' p = some (.lst ws) -> Reps K G' (res ds) ws -> Q (.ref p) H'
noncomputable def D.flat : D -> Bool
 | .lst _ => false | .tup _ => false | .dct _ _ => false | .dctT _ _ => false | .ins _ _ _ => false | _ => true
section
variable {K : PySem.W.Frag} {G H₀ L : Hp} {ss : List Sl} {t : TA} {ds : List D} {pre : List D -> Prop} {E : XK}
theorem zco {res : List D -> D} (a : EvAF K G H₀ L ss t ds) (hp : pre ds) : Ev K G H₀ L ss (zil (SpD K pre res) [] E t) (res ds) := fun F H σ Q S q =>
 a F H σ _ S fun vs F1 H1 e1 r1 => ⟨F1, ds, e1.fh, by rw [List.append_nil]; exact r1, hp, fun v G' H' e2 r => q _ _ _ (e1.trans e2) r⟩
theorem zel {res : List D -> List D} (a : EvAF K G H₀ L ss t ds) (hp : pre ds) : EvO K G H₀ L ss (zil (SpO K pre res) [] E t) (res ds) := fun F H σ Q S q =>
 a F H σ _ S fun vs F1 H1 e1 r1 => ⟨F1, ds, e1.fh, by rw [List.append_nil]; exact r1, hp, fun p ws G' H' e2 h1 h2 h3 r => q _ _ _ _ (e1.trans e2) (e1.hh.free h1) h2 h3 r⟩
end
section
variable (K : PySem.W.Frag) (G H₀ L : Hp)
noncomputable def Nx (P : St -> Hp -> Prop) (ss : List Sl) : Prop := ∀ F H σ, Sat K G H₀ L F H σ ss -> P σ H
noncomputable def Go (E : Ends) (ss : List Sl) (t : TS) : Prop := ∀ F H σ, Sat K G H₀ L F H σ ss -> t E σ H
noncomputable def Tg (g : TG) (d : D) (ss ss' : List Sl) : Prop := ∀ F H σ v (Q : St -> Hp -> Prop), Sat K G H₀ L F H σ ss -> Rep K F d v -> (∀ σ' , Sat K G H₀ L F H σ' ss' -> Q σ' H) -> g v σ H Q
noncomputable def Tgs (g : TGs) (ds : List D) (ss ss' : List Sl) : Prop := ∀ F H σ vs (Q : St -> Hp -> Prop), Sat K G H₀ L F H σ ss -> Reps K F ds vs -> (∀ σ' , Sat K G H₀ L F H σ' ss' -> Q σ' H) -> g vs σ H Q
noncomputable def At (I : List Sl -> Prop) : St -> Hp -> Prop := fun σ H => ∃ ss F, Sat K G H₀ L F H σ ss /\ I ss
end
noncomputable def RtD (K : PySem.W.Frag) (G H₀ : Hp) (rt : VK) (d : D) : Prop := ∀ v F H, Ext G H₀ F H -> Rep K F d v -> rt v H
noncomputable def RtO (K : PySem.W.Frag) (G H₀ : Hp) (rt : VK) (ds : List D) : Prop := ∀ p vs F H, Ext G H₀ F H -> H₀ p = none -> F p = none -> H p = some (.lst vs) -> Reps K F ds vs -> rt (.ref p) H
section
variable {K : PySem.W.Frag} {G H₀ L : Hp} {ss ss' : List Sl} {E : Ends} {t u : TS} {te : TE} {d : D} {ds : List D} {P : St -> Hp -> Prop}
theorem zat (h : Go K G H₀ L { E with nx := u E } ss t) : Go K G H₀ L E ss (tSeq t u) := h
theorem zd7 {i : Nat} (a : Ev K G H₀ L ss te d) (h : Nx K G H₀ L E.nx (ss.set i (.d d))) : Go K G H₀ L E ss (tAsg te (zjs i)) := fun F H σ S => a F H σ _ S fun v F' H' e r => h F' H' _ ((S.ext2 e).setD r)
theorem Sat.notin {F H : Hp} {σ : St} {p : Addr} (S : Sat K G H₀ L F H σ ss) (hp : H p = none) (j : Nat) (s : Sl) (h : ss[j]? = some s) : p ∉ s.ads := fun z => (S.ok j s h).live z hp
theorem Sat.newO {F H F' H' : Hp} {σ : St} {p : Addr} {vs : List V} {i : Nat} (S : Sat K G H₀ L F H σ ss) (e : Ext F H F' H') (hp : H p = none) (fp : F' p = none) (hp' : H' p = some (.lst vs)) (r : Reps K F' ds vs) : Sat K G H₀ L F' H' (σ.set i (some (.ref p))) (ss.set i (.o p ds)) :=
 (S.ext2 e).setO ⟨S.ext.hh.free hp, fp, vs, hp', r⟩ fun j s _ h => S.notin hp j s h
theorem zcp {i : Nat} (a : EvO K G H₀ L ss te ds) (h : ∀ p, Nx K G H₀ L E.nx (ss.set i (.o p ds))) : Go K G H₀ L E ss (tAsg te (zjs i)) := fun F H σ S => a F H σ _ S fun p vs F' H' e hp fp hp' r => h p F' H' _ (S.newO e hp fp hp' r)
theorem zei {c : TT} {b : Bool} (a : EvT K G H₀ L ss c b) (h1 : b = true -> Go K G H₀ L E ss t) (h2 : b = false -> Go K G H₀ L E ss u) : Go K G H₀ L E ss (tIfS c t u) := fun F H σ S => a F H σ _ S fun F' H' e => by
 cases b with
 | true => exact iteT (h1 rfl F' H' σ (S.ext2 e))
 | false => exact iteF (h2 rfl F' H' σ (S.ext2 e))
theorem zb5 (h : Nx K G H₀ L E.nx ss) : Go K G H₀ L E ss zx9 := h
theorem zb1 (a : Ev K G H₀ L ss te d) (h : RtD K G H₀ E.rt d) : Go K G H₀ L E ss (tRet te) := fun F H σ S => a F H σ _ S fun v F' H' e r => h v F' H' (S.ext.trans e) r
theorem zl0 (a : EvO K G H₀ L ss te ds) (h : RtO K G H₀ E.rt ds) : Go K G H₀ L E ss (tRet te) := fun F H σ S => a F H σ _ S fun p vs F' H' e hp fp hp' r => h p vs F' H' (S.ext.trans e) (S.ext.hh.free hp) fp hp' r
theorem zcn {i : Nat} {p : Addr} (hs : ss[i]? = some (.o p ds)) (h : Nx K G H₀ L P (ss.set i (.d (.lst ds)))) : Nx K G H₀ L P ss := fun F H σ S => by
 obtain ⟨F', S'⟩ := S.freeze hs
 exact h F' H σ S'
theorem zbh (h : Go K G H₀ L E ss t) : Nx K G H₀ L (t E) ss := h
theorem zx0 {I : List Sl -> Prop} (h : I ss) : Nx K G H₀ L (At K G H₀ L I) ss := fun F H σ S => ⟨ss, F, S, h⟩
theorem zv7 (I : List Sl -> Prop) (h1 : ∀ N : St -> Hp -> Prop, (∀ ss, I ss -> Nx K G H₀ L N ss) -> Go K G H₀ L { E with nx := N } ss t) (h2 : ∀ ss, I ss -> Go K G H₀ L E ss u) : Go K G H₀ L E ss (tSeq t u) := h1 _ h2
theorem zb4 {i : Nat} : Tg K G H₀ L (zjs i) d ss (ss.set i (.d d)) := fun F H σ v Q S r q => q _ (S.setD r)
theorem zf5 : Tgs K G H₀ L gNil [] ss ss := fun F H σ vs Q S r q => by
 rw [Reps] at r
 exact ⟨r, q _ S⟩
theorem zb6 {g : TG} {gs : TGs} {ss1 ss2 : List Sl} (a : Tg K G H₀ L g d ss ss1) (b : Tgs K G H₀ L gs ds ss1 ss2) : Tgs K G H₀ L (zv6 g gs) (d :: ds) ss ss2 := fun F H σ vs Q S r q => by
 rw [Reps] at r
 obtain ⟨x, xs, rfl, r1, r2⟩ := r
 exact ⟨x, xs, rfl, a F H σ x _ S r1 fun σ' S' => b F H σ' xs _ S' r2 q⟩
theorem zkk {g : TGs} {n : Nat} (hn : ds.length = n) (a : Tgs K G H₀ L g ds ss ss') : Tg K G H₀ L (gTup K n g) (.tup ds) ss ss' := fun F H σ v Q S r q => by
 obtain ⟨p, xs, rfl, sq, rs⟩ := r.of_tup
 exact ⟨p, xs, rfl, SqT.same S.ext.fh sq, by rw [<- rs.length]; exact hn, a F H σ xs _ S rs q⟩
theorem zgi {i : Nat} {p : Addr} {t1 : TE} (hs : ss[i]? = some (.o p ds)) (a : Ev K G H₀ L ss t1 d) (hz : ds.length < sizeLine) (h : Nx K G H₀ L E.nx (ss.set i (.o p (ds ++ [d])))) :
  Go K G H₀ L E ss (zsb (tBM K "list" zrd (tVar i) (zbe t1 tNil))) := fun F H σ S => by
 obtain ⟨e, h0, fp, vs, hp, r⟩ := S.getO hs
 refine ⟨.ref p, e, .inl ⟨rfl, _, SqL.of hp⟩, a F H σ _ S fun v F' H' e' r' => ?_⟩
 have S' := S.ext2 e'
 obtain ⟨e2, h02, fp2, vs', hp2, r2⟩ := S'.getO hs
 exact ⟨p, vs', v, rfl, rfl, hp2, by rw [<- r2.length]; exact hz, h F' _ σ (S'.write hs (r2.snoc r'))⟩
theorem Rep.itl {F H : Hp} {p : Addr} (h : Same F H) (r : Rep K F (.lst ds) (.ref p)) : ∃ vs, SqL K H p vs /\ Reps K F ds vs := by
 obtain ⟨q, xs, e, sq, rs⟩ := r.of_lst
 cases e
 exact ⟨xs, SqL.same h sq, rs⟩
theorem zw0 {tl : TE} {g : TG} {tb : TS} {α : Type} (enc : α -> D) (xs : List α) (I : Nat -> List Sl -> Prop) (a : Ev K G H₀ L ss tl (.lst (xs.map enc))) (h0 : I 0 ss)
  (hs : ∀ L' k x ss, Same L L' -> xs[k]? = some x -> I k ss -> ∃ ss', Tg K G H₀ L' g (enc x) ss ss' /\ ∀ N, (∀ ss, I (k + 1) ss -> Nx K G H₀ L' N ss) -> Go K G H₀ L' { E with nx := N, ct := N, bk := E.nx } ss' tb)
  (hd : ∀ ss, I xs.length ss -> Nx K G H₀ L E.nx ss) : Go K G H₀ L E ss (tFor (znk K tl) g tb) := fun F H σ S =>
 a F H σ _ S fun v F1 H1 e1 r1 => by
  obtain ⟨p, vs, rfl, sq, rs⟩ := r1.of_lst
  refine ⟨p, rfl, ⟨vs, SqL.same e1.fh sq⟩, ?_⟩
  refine ⟨fun i m σ' H' => m = xs.length - i /\ i <= xs.length /\ At K G H₀ F1 (I i) σ' H', ⟨_, rfl, Nat.zero_le _, ss, F1, (S.ext2 e1).raise, h0⟩, ?_⟩
  rintro i m σ' H' ⟨rfl, hi, ss1, F2, S2, h2⟩
  have rp : Rep K F2 (.lst (xs.map enc)) (.ref p) := r1.mono S2.fl
  obtain ⟨ws, sq2, rs2⟩ := rp.itl S2.ext.fh
  have hlen : ws.length = xs.length := by rw [<- rs2.length, List.length_map]
  by_cases hlt : i < xs.length
  ·refine .inr ⟨⟨ws, ws[i]'(by lia), sq2, List.getElem?_eq_getElem _⟩, fun σ'' H'' => At K G H₀ F1 (I (i + 1)) σ'' H'', fun σ'' H'' h => ⟨xs.length - (i + 1), by lia, rfl, hlt, h⟩, fun x H'' y => ?_⟩
   obtain ⟨rfl, y⟩ := y
   have hx := y ws sq2
   obtain ⟨dx, hdx, rx⟩ := rs2.get hx
   rw [List.getElem?_map, List.getElem?_eq_getElem hlt] at hdx
   cases hdx
   obtain ⟨ss', tg, go⟩ := hs F1 i _ ss1 (S.fl.trans e1.gf) (List.getElem?_eq_getElem hlt) h2
   exact tg F2 _ σ' x _ S2 rx fun σ3 S3 => go _ (fun ss h => zx0 h) F2 _ σ3 S3
  ·have e : i = xs.length := by lia
   subst e
   exact .inl ⟨⟨ws, sq2, by lia⟩, hd ss1 h2 F2 H' σ' (S2.lower (S.fl.trans e1.gf))⟩
theorem zsl {ta : TA} {j : Nat} {tb : TS} {n : Int} (I : Nat -> List Sl -> Prop) (a : EvA K G H₀ L ss ta [.int n]) (hb : -(2 ^ 62) <= n /\ n < 2 ^ 62) (h0 : I 0 ss)
  (hs : ∀ (k : Nat) ss, (k : Int) < n -> I k ss -> ∀ N, (∀ ss, I (k + 1) ss -> Nx K G H₀ L N ss) -> Go K G H₀ L { E with nx := N, ct := N, bk := E.nx } (ss.set j (.d (.int (k : Int)))) tb)
  (hd : ∀ ss, I n.toNat ss -> Nx K G H₀ L E.nx ss) {ti : TI} (hti : ∀ σ H R, (ta σ H fun vs H1 => ∃ m : Int, vs = [.int m] /\ -(2 ^ 62) <= m /\ m < 2 ^ 62 /\ R (Itr 0 m.toNat) H1) -> ti σ H R) : Go K G H₀ L E ss (tFor ti (zjs j) tb) := fun F H σ S => by
 refine hti σ H _ (a F H σ _ S fun vs F1 H1 e1 r1 => ?_)
 rw [Reps] at r1
 obtain ⟨x, r, rfl, rx, r1⟩ := r1
 rw [Reps] at r1
 subst r1
 rw [rx.of_int]
 refine ⟨n, rfl, hb.1, hb.2, fun i m σ' H' => m = n.toNat - i /\ i <= n.toNat /\ At K G H₀ L (I i) σ' H', ⟨_, rfl, Nat.zero_le _, ss, F1, S.ext2 e1, h0⟩, ?_⟩
 rintro i m σ' H' ⟨rfl, hi, ss1, F2, S2, h2⟩
 by_cases hlt : i < n.toNat
 ·refine .inr ⟨hlt, fun σ'' H'' => At K G H₀ L (I (i + 1)) σ'' H'', fun σ'' H'' h => ⟨n.toNat - (i + 1), by lia, rfl, hlt, h⟩, fun x H'' y => ?_⟩
  obtain ⟨rfl, rfl⟩ := y
  refine hs i ss1 (by omega) h2 _ (fun ss h => zx0 h) F2 _ _ ?_
  have e : (0 : Int) + (i : Int) = (i : Int) := by lia
  rw [e]
  exact S2.setD Rep.int
 ·have e : i = n.toNat := by lia
  subst e
  exact .inl ⟨Nat.le_refl _, hd ss1 h2 F2 H' σ' S2⟩
end
end L2
namespace L2
open PySem PySem.Spec PyProof.Rows
mutual
noncomputable def D.toP : D -> PyData
 | .non => .none
 | .bl b => .bool b
 | .int i => .int i
 | .str l => .str (T l)
 | .lst a => .list (D.toPs a)
 | .tup a => .tuple (D.toPs a)
 | .dct _ _ => .none
 | .dctT _ _ => .none
 | .ins _ _ _ => .none
noncomputable def D.toPs : List D -> List PyData
 | [] => []
 | a :: x => a.toP :: D.toPs x
end
mutual
theorem D.toP_depth : ∀ d : D, d.toP.depth = d.dep
 | .non => rfl
 | .bl _ => rfl
 | .int _ => rfl
 | .str _ => rfl
 | .lst a => by simp [D.toP, PyData.depth, D.dep, D.toPs_depth a]
 | .tup a => by simp [D.toP, PyData.depth, D.dep, D.toPs_depth a]
 | .dct _ _ => rfl
 | .dctT _ _ => rfl
 | .ins _ _ _ => rfl
theorem D.toPs_depth : ∀ a : List D, PyData.depthAll (D.toPs a) = D.deps a
 | [] => rfl
 | d :: a => by simp [D.toPs, PyData.depthAll, D.deps, D.toP_depth d, D.toPs_depth a]
end
mutual
theorem D.eqv : ∀ d e : D, d.nb = true -> e.nb = true -> PyData.eqv d.toP e.toP = decide (d = e)
 | .non, e, _, h2 => by cases e <;> simp [D.toP, PyData.eqv, D.nb] at h2 ⊢
 | .bl _, _, h1, _ => by simp [D.nb] at h1
 | .dct _ _, _, h1, _ => by simp [D.nb] at h1
 | .dctT _ _, _, h1, _ => by simp [D.nb] at h1
 | .ins _ _ _, _, h1, _ => by simp [D.nb] at h1
 | .int i, e, _, h2 => by
  cases e <;> simp [D.toP, PyData.eqv, D.nb] at h2 ⊢
  exact Bool.beq_eq_decide_eq _ _
 | .str l, e, _, h2 => by
  cases e <;> simp [D.toP, PyData.eqv, D.nb] at h2 ⊢
  rename_i m
  rw [Bool.eq_iff_iff]; simp [zsn]
 | .lst a, e, h1, h2 => by
  cases e with
  | lst b =>
   simp only [D.nb] at h1 h2
   simp only [D.toP, PyData.eqv, D.lst.injEq]
   exact D.eqvs a b h1 h2
  | _ => simp [D.toP, PyData.eqv, D.nb] at h2 ⊢
 | .tup a, e, h1, h2 => by
  cases e with
  | tup b =>
   simp only [D.nb] at h1 h2
   simp only [D.toP, PyData.eqv, D.tup.injEq]
   exact D.eqvs a b h1 h2
  | _ => simp [D.toP, PyData.eqv, D.nb] at h2 ⊢
theorem D.eqvs : ∀ a b : List D, D.nbs a = true -> D.nbs b = true -> PyData.eqvAll (D.toPs a) (D.toPs b) = decide (a = b)
 | [], b, _, _ => by cases b <;> simp [D.toPs, PyData.eqvAll]
 | d :: a, b, h1, h2 => by
  cases b with
  | nil => simp [D.toPs, PyData.eqvAll]
  | cons e b =>
   simp only [D.nbs, Bool.and_eq_true] at h1 h2
   simp only [D.toPs, PyData.eqvAll, D.eqv d e h1.1 h2.1, D.eqvs a b h1.2 h2.2, List.cons.injEq]
   by_cases x : d = e <;> by_cases y : a = b <;> simp [x, y]
end
section
variable {X : Cx} {pins : List (Addr × Obj)} {σ : St} {H : Hp} {s : Shared}
theorem zv8 {l : List Nat} (h : ∀ c ∈ l, c < 128) : PyData.strOk (T l) = true := by
 unfold PyData.strOk T
 simp
 intro c hc
 have := h c hc
 lia
mutual
theorem Inv.reads (I : Inv X pins σ H s) : ∀ {d : D} {v : V} {u : Value}, d.nb = true -> Rep X.K H d v -> RelV v u -> (∃ as, Reads s.heap u d.toP as) /\ d.toP.canLay0 = true
 | .non, _, _, _, r, q => by rw [r.of_non] at q; cases q; exact ⟨⟨_, Reads.none⟩, rfl⟩
 | .bl b, _, _, n, _, _ => by simp [D.nb] at n
 | .dct _ _, _, _, n, _, _ => by simp [D.nb] at n
 | .dctT _ _, _, _, n, _, _ => by simp [D.nb] at n
 | .ins _ _ _, _, _, n, _, _ => by simp [D.nb] at n
 | .int i, _, _, _, r, q => by rw [r.of_int] at q; obtain ⟨t, rfl⟩ := q; exact ⟨⟨_, Reads.int i t⟩, rfl⟩
 | .str l, _, _, _, r, q => by
  have ha := r.asc
  rw [r.of_str] at q; obtain ⟨t, rfl⟩ := q
  exact ⟨⟨_, Reads.str _ t⟩, zv8 ha⟩
 | .lst ds, _, _, nn, r, q => by
  obtain ⟨p, xs, rfl, sq, rs⟩ := r.of_lst
  cases q
  obtain ⟨its, rv, ⟨o, n, e, c, _, hd⟩, _⟩ := I.list sq
  obtain ⟨⟨as, ra⟩, hc⟩ := I.readsAll (by simpa [D.nb] using nn) rs rv
  exact ⟨⟨_, Reads.list e c hd (by simpa using ra)⟩, by simpa [D.toP, PyData.canLay0] using hc⟩
 | .tup ds, _, _, nn, r, q => by
  obtain ⟨p, xs, rfl, sq, rs⟩ := r.of_tup
  cases q
  obtain ⟨its, rv, ⟨o, e, c, n, hd⟩, _⟩ := I.tuple sq
  obtain ⟨⟨as, ra⟩, hc⟩ := I.readsAll (by simpa [D.nb] using nn) rs rv
  exact ⟨⟨_, Reads.tuple e c hd (by simpa using ra)⟩, by simpa [D.toP, PyData.canLay0] using hc⟩
theorem Inv.readsAll (I : Inv X pins σ H s) : ∀ {ds : List D} {vs : List V} {us : List Value}, D.nbs ds = true -> Reps X.K H ds vs -> Vals vs us -> (∃ as, ReadsAll s.heap us (D.toPs ds) as) /\ PyData.canLayAll0 (D.toPs ds) = true
 | [], _, _, _, r, q => by
  rw [Reps] at r; subst r
  cases q
  exact ⟨⟨_, ReadsAll.nil⟩, rfl⟩
 | d :: ds, _, _, n, r, q => by
  simp only [D.nbs, Bool.and_eq_true] at n
  rw [Reps] at r
  obtain ⟨x, xs, rfl, r1, r2⟩ := r
  cases q with
  | cons q1 q2 =>
   obtain ⟨⟨as, a⟩, hc⟩ := I.reads n.1 r1 q1
   obtain ⟨⟨bs, b⟩, hc2⟩ := I.readsAll n.2 r2 q2
   exact ⟨⟨_, ReadsAll.cons a b⟩, by simp [D.toPs, PyData.canLayAll0, hc, hc2]⟩
end
end
noncomputable def rEqD (K : PySem.W.Frag) : R2 := fun x y H Q => ∃ d e, Rep K H d x /\ Rep K H e y /\ d.nb = true /\ e.nb = true /\ d.dep <= 60 /\ Q (.bl (decide (d = e))) H
section
variable {X : Cx}
theorem zwp (hu : X.A.units + 64 < cLine) : OpR X (compareOp .Eq) (rEqD X.K) := by
 intro pins s σ H x y v u Q I rx ry h
 obtain ⟨d, e, r1, r2, n1, n2, hd, q⟩ := h
 obtain ⟨⟨as, a⟩, c1⟩ := I.reads n1 r1 rx
 obtain ⟨⟨bs, b⟩, c2⟩ := I.reads n2 r2 ry
 have h1 := D.toP_depth d
 refine SeqAt.compareEq_reads a b c1 c2 (by lia) ?_
 rw [D.eqv d e n1 n2]
 exact ⟨.bl _, H, I, rfl, q⟩
theorem zh7 (d : D) (hd : d.nb = true) : ∀ ds : List D, D.nbs ds = true -> ((D.toPs ds).any fun y => PyData.eqv y d.toP) = decide (d ∈ ds)
 | [], _ => by simp [D.toPs]
 | e :: ds, h => by
  simp only [D.nbs, Bool.and_eq_true] at h
  rw [D.toPs, List.any_cons, zh7 d hd ds h.2, D.eqv e d h.1 hd]
  by_cases x : e = d
  ·subst x; simp
  ·have : ¬ d = e := fun z => x z.symm
   simp [x, this]
noncomputable def rInD (K : PySem.W.Frag) (neg : Bool) : R2 := fun x y H Q => ∃ d ds, Rep K H d x /\ (Rep K H (.lst ds) y \/ Rep K H (.tup ds) y) /\ d.nb = true /\ D.nbs ds = true /\ d.dep <= 60 /\ Q (.bl (if neg then !decide (d ∈ ds) else decide (d ∈ ds))) H
theorem zuh (hu : X.A.units + 64 < cLine) : OpR X (compareOp .In) (rInD X.K false) := by
 intro pins s σ H x y v u Q I rx ry h
 obtain ⟨d, ds, r1, r2, n1, n2, hd, q⟩ := h
 obtain ⟨⟨as, a⟩, c1⟩ := I.reads n1 r1 rx
 have h1 := D.toP_depth d
 have fin : EP X pins σ Q (.bool ((D.toPs ds).any fun y => PyData.eqv y d.toP)) s := by rw [zh7 d n1 ds n2]; exact ⟨.bl _, H, I, rfl, q⟩
 rcases r2 with r2 | r2
 ·obtain ⟨⟨bs, b⟩, c2⟩ := I.reads (by simpa [D.nb] using n2) r2 ry
  rw [D.toP] at b c2
  exact SeqAt.in_list_reads b a (by simpa [PyData.canLay0] using c2) c1 (by lia) fin
 ·obtain ⟨⟨bs, b⟩, c2⟩ := I.reads (by simpa [D.nb] using n2) r2 ry
  rw [D.toP] at b c2
  exact SeqAt.in_tuple_reads b a (by simpa [PyData.canLay0] using c2) c1 (by lia) fin
theorem zre (hu : X.A.units + 64 < cLine) : OpR X (compareOp .NotIn) (rInD X.K true) := by
 intro pins s σ H x y v u Q I rx ry h
 obtain ⟨d, ds, r1, r2, n1, n2, hd, q⟩ := h
 obtain ⟨⟨as, a⟩, c1⟩ := I.reads n1 r1 rx
 have h1 := D.toP_depth d
 have fin : EP X pins σ Q (.bool (!(D.toPs ds).any fun y => PyData.eqv y d.toP)) s := by rw [zh7 d n1 ds n2]; exact ⟨.bl _, H, I, rfl, q⟩
 rcases r2 with r2 | r2
 ·obtain ⟨⟨bs, b⟩, c2⟩ := I.reads (by simpa [D.nb] using n2) r2 ry
  rw [D.toP] at b c2
  exact SeqAt.notIn_list_reads b a (by simpa [PyData.canLay0] using c2) c1 (by lia) fin
 ·obtain ⟨⟨bs, b⟩, c2⟩ := I.reads (by simpa [D.nb] using n2) r2 ry
  rw [D.toP] at b c2
  exact SeqAt.notIn_tuple_reads b a (by simpa [PyData.canLay0] using c2) c1 (by lia) fin
end
section
variable {K : PySem.W.Frag} {G H₀ L : Hp} {ss : List Sl} {t ta tb : TE} {d d1 d2 : D} {ds es : List D}
theorem zwq (a : EvB K G H₀ L ss ta d1) (b : EvB K G H₀ L ss tb d2) (n1 : d1.nb = true) (n2 : d2.nb = true) (hd : d1.dep <= 60) : Ev K G H₀ L ss (tOp (rEqD K) ta tb) (.bl (decide (d1 = d2))) :=
 zcu (w:=.bl (decide (d1 = d2))) a b (fun H x y Q r1 r2 q => ⟨d1, d2, r1, r2, n1, n2, hd, q⟩) fun _ _ _ _ _ _ => Rep.bl
theorem zx7 (a : EvB K G H₀ L ss ta d) (b : EvB K G H₀ L ss tb (.tup ds)) (n1 : d.nb = true) (n2 : D.nbs ds = true) (hd : d.dep <= 60) : Ev K G H₀ L ss (tOp (rInD K false) ta tb) (.bl (decide (d ∈ ds))) :=
 zcu (w:=.bl (decide (d ∈ ds))) a b (fun H x y Q r1 r2 q => ⟨d, ds, r1, .inr r2, n1, n2, hd, q⟩) fun _ _ _ _ _ _ => Rep.bl
theorem zrx (a : EvB K G H₀ L ss ta d) (b : EvB K G H₀ L ss tb (.lst ds)) (n1 : d.nb = true) (n2 : D.nbs ds = true) (hd : d.dep <= 60) : Ev K G H₀ L ss (tOp (rInD K true) ta tb) (.bl (!decide (d ∈ ds))) :=
 zcu (w:=.bl (!decide (d ∈ ds))) a b (fun H x y Q r1 r2 q => ⟨d, ds, r1, .inl r2, n1, n2, hd, q⟩) fun _ _ _ _ _ _ => Rep.bl
end
theorem D.nbs_map {α : Type} {enc : α -> D} (h : ∀ x, (enc x).nb = true) : ∀ xs : List α, D.nbs (xs.map enc) = true
 | [] => rfl
 | x :: xs => by simp [D.nbs, h x, D.nbs_map h xs]
theorem D.deps_map {α : Type} {enc : α -> D} {n : Nat} (h : ∀ x, (enc x).dep <= n) : ∀ xs : List α, D.deps (xs.map enc) <= n
 | [] => Nat.zero_le _
 | x :: xs => by
  have h1 := h x
  have h2 := D.deps_map h xs
  simp only [List.map_cons, D.deps]; lia
theorem D.nb_lst {ds : List D} : (D.lst ds).nb = D.nbs ds := by rw [D.nb]
theorem D.dep_lst {ds : List D} : (D.lst ds).dep = D.deps ds + 1 := by rw [D.dep]
end L2
namespace L2
open PySem PySem.Spec PyProof.Rows
noncomputable def ItOk (K : PySem.W.Frag) (J : It) (F' H' : Hp) (n : Nat) (y : Nat -> D) : Prop := ∀ F2 H2, Same F' F2 -> Same H' H2 -> Same F2 H2 ->
 (∀ i, i < n -> J.go i H2 /\ ∀ x H3, J.yld i H2 x H3 -> ∃ F3, Ext F2 H2 F3 H3 /\ Rep K F3 (y i) x) /\ J.stop n H2
noncomputable def EvI (K : PySem.W.Frag) (G H₀ L : Hp) (ss : List Sl) (wi : TI) (n : Nat) (y : Nat -> D) : Prop := ∀ F H σ R, Sat K G H₀ L F H σ ss -> (∀ F' H' J, Ext F H F' H' -> ItOk K J F' H' n y -> R J H') -> wi σ H R
section
variable {K : PySem.W.Frag} {G H₀ L : Hp} {ss : List Sl}
theorem zi9 {tl : TE} {ds : List D} (a : EvL K G H₀ L ss tl ds) : EvI K G H₀ L ss (znk K tl) ds.length fun i => ds.getD i .non := fun F H σ R S q =>
 a F H σ _ S fun p vs F' H' e sq r => ⟨p, rfl, ⟨vs, sq⟩, q F' H' _ e fun F2 H2 f1 h1 fh => by
  have sq2 := SqL.same h1 sq
  have hl := r.length
  refine ⟨fun i hi => ⟨⟨vs, vs[i]'(by lia), sq2, List.getElem?_eq_getElem _⟩, fun x H3 y => ?_⟩, ⟨vs, sq2, by lia⟩⟩
  obtain ⟨rfl, y⟩ := y
  obtain ⟨d, hd, rd⟩ := r.get (y vs sq2)
  refine ⟨F2, Ext.refl fh, ?_⟩
  show Rep K F2 (ds.getD i D.non) x
  rw [List.getD_eq_getElem?_getD, hd]
  exact rd.mono f1⟩
theorem zvc {tl : TE} {l : List Nat} (a : EvB K G H₀ L ss tl (.str l)) : EvI K G H₀ L ss (iStr tl) l.length fun i => .str [l.getD i 0] := fun F H σ R S q =>
 a F H σ _ S fun v F' H' e r => by
  have ha := r.asc
  rw [r.of_str]
  refine ⟨T l, rfl, q F' H' _ e fun F2 H2 f1 h1 fh => ?_⟩
  have ez : (T l).cps.toList = l := zdh l
  refine ⟨fun i hi => ⟨by show i < _; rw [ez]; exact hi, fun x H3 y => ?_⟩, by show _ <= _; rw [ez]; exact Nat.le_refl _⟩
  obtain ⟨rfl, c, hc, rfl⟩ := y
  rw [ez] at hc
  refine ⟨F2, Ext.refl fh, ?_⟩
  have : l.getD i 0 = c := by rw [List.getD_eq_getElem?_getD, hc]; rfl
  show Rep K F2 (D.str [l.getD i 0]) _
  rw [this]
  exact Rep.str fun c' h' => by rw [List.mem_singleton.mp h']; exact ha c (List.mem_of_getElem? hc)
noncomputable def lcSl (nt : Nat) (cs : List Nat) (ss : List Sl) : List Sl := List.replicate nt .un ++ cs.map fun i => ss.getD i .un
theorem Sat.lc {F H : Hp} {σ : St} {nt : Nat} {cs : List Nat} (S : Sat K G H₀ L F H σ ss) (hc : cs.Nodup) : Sat K G H₀ L F H (lcS nt cs σ) (lcSl nt cs ss) := by
 have cut : ∀ (i : Nat) s, (lcSl nt cs ss)[i]? = some s -> s = .un \/ ∃ j, nt <= i /\ cs[i - nt]? = some j /\ ss[j]? = some s := by
  intro i s h
  unfold lcSl at h
  by_cases hi : i < nt
  ·rw [List.getElem?_append_left (by simpa using hi), List.getElem?_replicate, if_pos hi] at h
   exact .inl (Option.some.inj h).symm
  ·rw [List.getElem?_append_right (by simpa using hi), List.length_replicate, List.getElem?_map] at h
   cases hj : cs[i - nt]? with
   | none => rw [hj] at h; cases h
   | some j =>
    rw [hj] at h
    have h : ss.getD j .un = s := Option.some.inj h
    rw [List.getD_eq_getElem?_getD] at h
    cases hs : ss[j]? with
    | none => rw [hs] at h; exact .inl h.symm
    | some s' => rw [hs] at h; exact .inr ⟨j, by lia, rfl, by rw [hs]; exact congrArg some h⟩
 have val : ∀ (i j : Nat), nt <= i -> cs[i - nt]? = some j -> (lcS nt cs σ).getD i none = σ.getD j none := by
  intro i j hi hj
  unfold lcS
  rw [List.getD_eq_getElem?_getD, List.getElem?_append_right (by simpa using hi), List.length_replicate, List.getElem?_map, hj]
  simp [List.getD_eq_getElem?_getD]
 refine ⟨S.ext, S.fl, by unfold lcS lcSl; simp, fun i s h => ?_, fun i s h => ?_, fun i j s s' hij h h' p hp => ?_⟩
 ·rcases cut i s h with rfl | ⟨j, hi, hj, hs⟩
  ·trivial
  ·rw [val i j hi hj]; exact S.ok j s hs
 ·rcases cut i s h with rfl | ⟨j, hi, hj, hs⟩
  ·simp [Sl.ads]
  ·exact S.nd j s hs
 ·rcases cut i s h with rfl | ⟨k, hi, hk, hs⟩
  ·simp [Sl.ads] at hp
  ·rcases cut j s' h' with rfl | ⟨m, hj, hm, hs'⟩
   ·simp [Sl.ads]
   ·have : k ≠ m := fun z => by
     subst z
     obtain ⟨l1, e1⟩ := List.getElem?_eq_some_iff.mp hk
     obtain ⟨l2, e2⟩ := List.getElem?_eq_some_iff.mp hm
     have := (List.getElem_inj hc).mp (e1.trans e2.symm)
     lia
    exact S.ne k m s s' this hs hs' p hp
noncomputable def GK (nt : Nat) (g : TG) : Prop := ∀ v σ H (Q Q' : St -> Hp -> Prop), (∀ σ' H', Q σ' H' -> σ'.length = σ.length -> σ'.drop nt = σ.drop nt -> Q' σ' H') -> g v σ H Q -> g v σ H Q'
noncomputable def GKs (nt : Nat) (g : TGs) : Prop := ∀ v σ H (Q Q' : St -> Hp -> Prop), (∀ σ' H', Q σ' H' -> σ'.length = σ.length -> σ'.drop nt = σ.drop nt -> Q' σ' H') -> g v σ H Q -> g v σ H Q'
theorem zdk {nt i : Nat} (h : i < nt) : GK nt (zjs i) := fun v σ H Q Q' f q => f _ _ q (by simp) (by rw [List.drop_set_of_lt h])
theorem zlj {nt : Nat} : GKs nt gNil := fun v σ H Q Q' f q => ⟨q.1, f _ _ q.2 rfl rfl⟩
theorem zd2 {nt : Nat} {g : TG} {gs : TGs} (a : GK nt g) (b : GKs nt gs) : GKs nt (zv6 g gs) := fun vs σ H Q Q' f q => by
 obtain ⟨v, r, e, q⟩ := q
 exact ⟨v, r, e, a v σ H _ _ (fun σ' H' q1 l1 d1 => b r σ' H' Q Q' (fun σ'' H'' q2 l2 d2 => f _ _ q2 (l2.trans l1) (d2.trans d1)) q1) q⟩
theorem zrz {nt n : Nat} {gs : TGs} (b : GKs nt gs) : GK nt (gTup K n gs) := fun v σ H Q Q' f q => by
 obtain ⟨a, xs, e, sq, hn, q⟩ := q
 exact ⟨a, xs, e, sq, hn, b xs σ H Q Q' f q⟩
theorem ziw {wi : TI} {g : TG} {tt : TT} {te : TE} {nt : Nat} {cs : List Nat} {n : Nat} {y : Nat -> D} (p : Nat -> Bool) (f : Nat -> D) (a : EvI K G H₀ L ss wi n y) (hk : GK nt g) (hc : cs.Nodup) (hz : n < sizeLine)
  (hs : ∀ i, i < n -> ∃ ss', Tg K G H₀ L g (y i) (lcSl nt cs ss) ss' /\ EvT K G H₀ L ss' tt (p i) /\ (p i = true -> Ev K G H₀ L ss' te (f i))) :
  EvO K G H₀ L ss (tLC nt cs wi g tt te) (((List.range n).filter p).map f) := fun F H σ Q S q =>
 a F H σ _ S fun F1 H1 J e1 it => by
  intro l hl
  have S1 := S.ext2 e1
  refine ⟨fun i m H2 => m = n - i /\ i <= n /\ ∃ F2 vs, Ext F1 H1 F2 H2 /\ F2 l = none /\ H2 l = some (.lst vs) /\ Reps K F2 (((List.range i).filter p).map f) vs /\ vs.length <= i,
   ⟨n, by lia, Nat.zero_le _, F1, [], (Ext.refl e1.fh).newO hl, e1.fh.free hl, zal, Reps.nil, Nat.le_refl _⟩, ?_⟩
  rintro i m H2 ⟨rfl, hi, F2, vs, e2, fl, hl2, rs, hvs⟩
  obtain ⟨it1, it2⟩ := it F2 H2 e2.gf e2.hh e2.fh
  by_cases hlt : i < n
  ·obtain ⟨go, yl⟩ := it1 i hlt
   refine .inr ⟨go, fun H' => ∃ F2 vs, Ext F1 H1 F2 H' /\ F2 l = none /\ H' l = some (.lst vs) /\ Reps K F2 (((List.range (i + 1)).filter p).map f) vs /\ vs.length <= i + 1, fun H' h => ⟨n - (i + 1), by omega, rfl, hlt, h⟩, fun x H3 yx => ?_⟩
   obtain ⟨F3, e3, rx⟩ := yl x H3 yx
   obtain ⟨ss', tg, evt, ev⟩ := hs i hlt
   have S3 := ((S1.ext2 e2).ext2 e3).lc (nt:=nt) hc
   have hl3 : H3 l = some (.lst vs) := e3.hh l _ hl2
   have fl3 : F3 l = none := (e3.no l _ hl2).trans fl
   have base := tg F3 H3 (lcS nt cs σ) x (fun σ2 H4 => H4 = H3 /\ Sat K G H₀ L F3 H3 σ2 ss') S3 rx fun σ' S' => ⟨rfl, S'⟩
   have fin : ∀ σ2, Sat K G H₀ L F3 H3 σ2 ss' -> tt σ2 H3 fun b H5 => if b = true then te σ2 H5 fun y H6 => ∃ xs, H6 l = some (.lst xs) /\ xs.length < sizeLine /\ (∃ F2 vs, Ext F1 H1 F2 (upd H6 l (.lst (xs ++ [y]))) /\ F2 l = none /\ (upd H6 l (.lst (xs ++ [y]))) l = some (.lst vs) /\ Reps K F2 (((List.range (i + 1)).filter p).map f) vs /\ vs.length <= i + 1) else ∃ F2 vs, Ext F1 H1 F2 H5 /\ F2 l = none /\ H5 l = some (.lst vs) /\ Reps K F2 (((List.range (i + 1)).filter p).map f) vs /\ vs.length <= i + 1 := fun σ2 S2 => by
    refine evt F3 H3 σ2 _ S2 fun F5 H5 e5 => ?_
    have S5 := S2.ext2 e5
    have hl5 : H5 l = some (.lst vs) := e5.hh l _ hl3
    have fl5 : F5 l = none := (e5.no l _ hl3).trans fl3
    have gf : Same F2 F5 := e3.gf.trans e5.gf
    cases hp : p i with
    | false =>
     refine iteF ⟨F5, vs, (e2.trans e3).trans e5, fl5, hl5, ?_, by lia⟩
     rw [List.range_succ, List.filter_append, List.filter_cons, hp]
     simpa using rs.mono gf
    | true =>
     refine iteT (ev hp F5 H5 σ2 _ S5 fun v F6 H6 e6 rv => ?_)
     have hl6 : H6 l = some (.lst vs) := e6.hh l _ hl5
     have fl6 : F6 l = none := (e6.no l _ hl5).trans fl5
     refine ⟨vs, hl6, by lia, F6, vs ++ [v], (((e2.trans e3).trans e5).trans e6).write fl6 hl, fl6, zal, ?_, by simp; omega⟩
     rw [List.range_succ, List.filter_append, List.filter_cons, hp, if_pos rfl, List.map_append]
     exact (rs.mono (gf.trans e6.gf)).snoc rv
   refine hk x (lcS nt cs σ) H3 _ _ (fun σ2 H4 h l1 d1 => ?_) base
   obtain ⟨rfl, S2⟩ := h
   exact ⟨⟨by rw [l1]; unfold lcS; simp, d1⟩, fin σ2 S2⟩
  ·have e : i = n := by lia
   subst e
   exact .inl ⟨it2, q l vs F2 H2 (e1.trans e2) (e1.hh.free hl) fl hl2 rs⟩
end
end L2
namespace L2
open PySem PySem.W PyProof.Rows
noncomputable def runT {α : Type} (lt : Nat -> Nat -> Bool) : KasT α -> α
 | .ret a => a
 | .ask i j k => runT lt (k (lt i j))
theorem zcz {α β : Type} (lt : Nat -> Nat -> Bool) (f : α -> KasT β) : ∀ t : KasT α, runT lt (t.bind f) = runT lt (f (runT lt t))
 | .ret _ => rfl
 | .ask i j k => zcz lt f (k (lt i j))
section
variable (key : Nat -> Int)
noncomputable def ltK (i j : Nat) : Bool := decide (key i < key j)
noncomputable def kk (p : Array Nat) (i : Nat) : Int := key (p.getD i 0)
noncomputable def Up (p : Array Nat) (n : Nat) : Prop := ∀ i j, i <= j -> j < n -> kk key p i <= kk key p j
noncomputable def Dn (p : Array Nat) (n : Nat) : Prop := ∀ i j, i <= j -> j < n -> kk key p j <= kk key p i
variable {key}
theorem zw4 (p : Array Nat) : Up key p 1 := fun i j h1 h2 => by
 have : i = j := by lia
 subst this; exact Int.le_refl _
theorem Up.snoc {p : Array Nat} {n : Nat} (h : Up key p n) (h0 : 0 < n) (hn : kk key p (n - 1) <= kk key p n) : Up key p (n + 1) := fun i j h1 h2 => by
 by_cases hj : j < n
 ·exact h i j h1 hj
 ·have : j = n := by lia
  subst this
  by_cases hi : i = j
  ·subst hi; exact Int.le_refl _
  ·exact Int.le_trans (h i (j - 1) (by lia) (by omega)) hn
theorem Dn.snoc {p : Array Nat} {n : Nat} (h : Dn key p n) (h0 : 0 < n) (hn : kk key p n <= kk key p (n - 1)) : Dn key p (n + 1) := fun i j h1 h2 => by
 by_cases hj : j < n
 ·exact h i j h1 hj
 ·have : j = n := by lia
  subst this
  by_cases hi : i = j
  ·subst hi; exact Int.le_refl _
  ·exact Int.le_trans hn (h i (j - 1) (by lia) (by omega))
theorem zle (p : Array Nat) : ∀ (f n : Nat), 0 < n -> Up key p n -> n <= runT (ltK key) (kas_asc p f n) /\ runT (ltK key) (kas_asc p f n) <= n + f /\ Up key p (runT (ltK key) (kas_asc p f n)) /\
  (runT (ltK key) (kas_asc p f n) < n + f -> kk key p (runT (ltK key) (kas_asc p f n)) < kk key p (runT (ltK key) (kas_asc p f n) - 1))
 | 0, n, h0, h => ⟨Nat.le_refl _, Nat.le_refl _, h, fun z => absurd z (Nat.lt_irrefl _)⟩
 | f + 1, n, h0, h => by
  have e0 : runT (ltK key) (kas_asc p (f + 1) n) = if kk key p n < kk key p (n - 1) then n else runT (ltK key) (kas_asc p f (n + 1)) := by
   show runT (ltK key) (if ltK key (p.getD n 0) (p.getD (n - 1) 0) = true then KasT.ret n else kas_asc p f (n + 1)) = _
   by_cases hc : kk key p n < kk key p (n - 1)
   ·have e : ltK key (p.getD n 0) (p.getD (n - 1) 0) = true := decide_eq_true hc
    rw [e, if_pos rfl, if_pos hc]; rfl
   ·have e : ltK key (p.getD n 0) (p.getD (n - 1) 0) = false := decide_eq_false hc
    rw [e, if_neg Bool.false_ne_true, if_neg hc]
  rw [e0]
  by_cases hc : kk key p n < kk key p (n - 1)
  ·rw [if_pos hc]
   exact ⟨Nat.le_refl _, by lia, h, fun _ => hc⟩
  ·rw [if_neg hc]
   have := zle p f (n + 1) (by lia) (h.snoc h0 (by lia))
   exact ⟨by lia, by lia, this.2.2.1, fun z => this.2.2.2 (by omega)⟩
theorem zmz {p : Array Nat} {i j : Nat} (hj : j <= p.size) (k : Nat) : (kas_rev p i j).getD k 0 = if i <= k /\ k < j then p.getD (i + j - 1 - k) 0 else p.getD k 0 := by
 have h := getElem?_mirror_all (xs:=p) (i:=i) hj k
 unfold kas_rev
 have e : ∀ (q : Array Nat) (m : Nat), q.getD m 0 = (q[m]?).getD 0 := fun q m => by simp [Array.getD_eq_getD_getElem?]
 rw [e, e, e, h]
 split <;> rfl
theorem zc5 (p : Array Nat) (i j : Nat) : (kas_rev p i j).size = p.size := mirror_size _ _ _ _
theorem zfx (p : Array Nat) (i j : Nat) : (kas_rev p i j).Perm p := mirror_perm _ _ _ _
theorem zd9 {p : Array Nat} {i j : Nat} (hj : j <= p.size) {c : Int} (hc : ∀ k, i <= k -> k < j -> kk key p k = c) (k : Nat) : kk key (kas_rev p i j) k = kk key p k := by
 unfold kk
 rw [zmz hj]
 split
 ·rename_i h
  have h1 := hc (i + j - 1 - k) (by omega) (by omega)
  have h2 := hc k h.1 h.2
  unfold kk at h1 h2
  rw [h1, h2]
 ·rfl
theorem zhe {p : Array Nat} {n : Nat} (hn : n <= p.size) (k : Nat) (hk : k < n) : kk key (kas_rev p 0 n) k = kk key p (n - 1 - k) := by
 unfold kk
 rw [zmz hn, if_pos ⟨Nat.zero_le _, hk⟩, show 0 + n - 1 - k = n - 1 - k by lia]
theorem Dn.rev {p : Array Nat} {n : Nat} (h : Dn key p n) (hn : n <= p.size) : Up key (kas_rev p 0 n) n := fun i j h1 h2 => by
 rw [zhe hn i (by lia), zhe hn j h2]
 exact h _ _ (by omega) (by omega)
theorem zfy : ∀ (f : Nat) (p : Array Nat) (n q : Nat), 0 < n -> q < n -> n + f <= p.size -> Dn key p n -> (∀ k, n - 1 - q <= k -> k < n -> kk key p k = kk key p (n - 1)) ->
  ∃ p' n' q', runT (ltK key) (kas_desc f p n q) = (p', n', q') /\ p'.size = p.size /\ p'.Perm p /\ n <= n' /\ n' <= n + f /\ q' < n' /\ Dn key p' n' /\ (∀ k, n' - 1 - q' <= k -> k < n' -> kk key p' k = kk key p' (n' - 1))
 | 0, p, n, q, h0, hq, hs, hd, he => ⟨p, n, q, rfl, rfl, Array.Perm.refl _, Nat.le_refl _, Nat.le_refl _, hq, hd, he⟩
 | f + 1, p, n, q, h0, hq, hs, hd, he => by
  unfold kas_desc
  simp only [runT]
  by_cases hc : kk key p n < kk key p (n - 1)
  ·have e : ltK key (p.getD n 0) (p.getD (n - 1) 0) = true := decide_eq_true hc
   rw [e, if_pos rfl]
   by_cases hq0 : q > 0
   ·rw [if_pos hq0]
    have ks := zd9 (key:=key) (p:=p) (i:=n - (q + 1)) (j:=n) (by lia) (c:=kk key p (n - 1)) (fun k h1 h2 => he k (by lia) h2)
    have hd' : Dn key (kas_rev p (n - (q + 1)) n) (n + 1) := by
     intro i j h1 h2
     rw [ks, ks]
     exact (hd.snoc h0 (Int.le_of_lt hc)) i j h1 h2
    obtain ⟨p', n', q', e1, e2, e3, e4, e5, e6, e7, e8⟩ := zfy f (kas_rev p (n - (q + 1)) n) (n + 1) 0 (by lia) (by lia) (by rw [zc5]; lia) hd' (fun k h1 h2 => by
     have : k = n + 1 - 1 := by lia
     rw [this])
    exact ⟨p', n', q', e1, by rw [e2, zc5], e3.trans (zfx _ _ _), by lia, by lia, e6, e7, e8⟩
   ·rw [if_neg hq0]
    obtain ⟨p', n', q', e1, e2, e3, e4, e5, e6, e7, e8⟩ := zfy f p (n + 1) 0 (by lia) (by lia) (by lia) (hd.snoc h0 (Int.le_of_lt hc)) (fun k h1 h2 => by
     have : k = n + 1 - 1 := by lia
     rw [this])
    exact ⟨p', n', q', e1, e2, e3, by lia, by lia, e6, e7, e8⟩
  ·have e : ltK key (p.getD n 0) (p.getD (n - 1) 0) = false := decide_eq_false hc
   rw [e, if_neg Bool.false_ne_true]
   simp only [runT]
   by_cases hd2 : kk key p (n - 1) < kk key p n
   ·have e2 : ltK key (p.getD (n - 1) 0) (p.getD n 0) = true := decide_eq_true hd2
    rw [e2, if_pos rfl]
    exact ⟨p, n, q, rfl, rfl, Array.Perm.refl _, Nat.le_refl _, by lia, hq, hd, he⟩
   ·have e2 : ltK key (p.getD (n - 1) 0) (p.getD n 0) = false := decide_eq_false hd2
    rw [e2, if_neg Bool.false_ne_true]
    have heq : kk key p n = kk key p (n - 1) := by lia
    obtain ⟨p', n', q', e1, e2, e3, e4, e5, e6, e7, e8⟩ := zfy f p (n + 1) (q + 1) (by lia) (by lia) (by lia) (hd.snoc h0 (by lia)) (fun k h1 h2 => by
     by_cases hk : k = n
     ·subst hk; rfl
     ·rw [he k (by lia) (by lia)]; exact heq.symm)
    exact ⟨p', n', q', e1, e2, e3, by lia, by lia, e6, e7, e8⟩
noncomputable def Good (key : Nat -> Int) (p : Array Nat) (nrem : Nat) (r : Nat × Array Nat) : Prop := 1 <= r.1 /\ r.1 <= nrem /\ r.2.size = p.size /\ r.2.Perm p /\ Up key r.2 r.1
theorem zm7 {p : Array Nat} {n nrem : Nat} (h0 : 0 < n) (hn : n <= nrem) (hs : nrem <= p.size) (hd : Dn key p n) : Good key p nrem (runT (ltK key) (kas_tail3 n nrem p)) := by
 unfold kas_tail3
 rw [zcz]
 simp only [runT]
 have := zle (key:=key) (kas_rev p 0 n) (nrem - n) n h0 (hd.rev (by lia))
 refine ⟨?_, ?_, zc5 _ _ _, zfx _ _ _, this.2.2.1⟩
 ·show 1 <= runT (ltK key) (kas_asc (kas_rev p 0 n) (nrem - n) n); lia
 ·show runT (ltK key) (kas_asc (kas_rev p 0 n) (nrem - n) n) <= nrem; lia
theorem Good.perm {p q : Array Nat} {nrem : Nat} {r : Nat × Array Nat} (h : Good key p nrem r) (hp : p.Perm q) (hs : p.size = q.size) : Good key q nrem r := ⟨h.1, h.2.1, h.2.2.1.trans hs, h.2.2.2.1.trans hp, h.2.2.2.2⟩
theorem zfd {p : Array Nat} {n nrem : Nat} (h0 : 0 < n) (hn : n < nrem) (hs : nrem <= p.size) (hd : Dn key p (n + 1)) : Good key p nrem (runT (ltK key) (kas_descPart n nrem p)) := by
 unfold kas_descPart
 rw [zcz]
 obtain ⟨p', n', q', e1, e2, e3, e4, e5, e6, e7, e8⟩ := zfy (key:=key) (nrem - (n + 1)) p (n + 1) 0 (by lia) (by lia) (by lia) hd (fun k h1 h2 => by
  have : k = n + 1 - 1 := by lia
  rw [this])
 rw [e1]
 dsimp only
 by_cases hq : q' > 0
 ·rw [if_pos hq]
  have ks := zd9 (key:=key) (p:=p') (i:=n' - (q' + 1)) (j:=n') (by lia) (c:=kk key p' (n' - 1)) (fun k h1 h2 => e8 k (by lia) h2)
  refine (zm7 (p:=kas_rev p' (n' - (q' + 1)) n') (by lia) (by omega) (by rw [zc5]; lia) ?_).perm ((zfx _ _ _).trans e3) (by rw [zc5, e2])
  intro i j h1 h2
  rw [ks, ks]; exact e7 i j h1 h2
 ·rw [if_neg hq]
  exact (zm7 (by lia) (by omega) (by lia) e7).perm e3 e2
theorem zra {p : Array Nat} {nrem : Nat} (h1 : 1 <= nrem) (hs : nrem <= p.size) : Good key p nrem (runT (ltK key) (kas_count nrem p)) := by
 unfold kas_count
 rw [zcz]
 have a := zle (key:=key) p (nrem - 1) 1 (by lia) (zw4 p)
 generalize runT (ltK key) (kas_asc p (nrem - 1) 1) = n at a
 obtain ⟨a1, a2, a3, a4⟩ := a
 by_cases hn : n = nrem
 ·subst hn
  rw [if_pos (by simp)]
  exact ⟨a1, Nat.le_refl _, rfl, Array.Perm.refl _, a3⟩
 ·rw [if_neg (by simpa using hn)]
  have hlt : n < nrem := by lia
  have dd := a4 (by lia)
  by_cases h2 : n > 1
  ·rw [if_pos h2]
   simp only [runT]
   by_cases hc : kk key p 0 < kk key p (n - 1)
   ·have e : ltK key (p.getD 0 0) (p.getD (n - 1) 0) = true := decide_eq_true hc
    rw [e, if_pos rfl]
    exact ⟨a1, by show n <= nrem; lia, rfl, Array.Perm.refl _, a3⟩
   ·have e : ltK key (p.getD 0 0) (p.getD (n - 1) 0) = false := decide_eq_false hc
    rw [e, if_neg Bool.false_ne_true]
    have same : ∀ k, 0 <= k -> k < n -> kk key p k = kk key p 0 := fun k _ hk => by
     have := a3 0 k (by omega) hk
     have := a3 k (n - 1) (by lia) (by lia)
     lia
    have ks := zd9 (key:=key) (p:=p) (i:=0) (j:=n) (by lia) same
    refine (zfd (p:=kas_rev p 0 n) (by lia) hlt (by rw [zc5]; exact hs) ?_).perm (zfx _ _ _) (zc5 _ _ _)
    intro i j hi hj
    rw [ks, ks]
    by_cases hjn : j < n
    ·rw [same j (by lia) hjn, same i (by lia) (by lia)]; exact Int.le_refl _
    ·have : j = n := by lia
     subst this
     by_cases hij : i = j
     ·subst hij; exact Int.le_refl _
     ·rw [same i (by lia) (by lia), <- same (j - 1) (by lia) (by lia)]; lia
  ·rw [if_neg h2]
   have : n = 1 := by lia
   subst this
   refine zfd (by lia) hlt hs ?_
   intro i j hi hj
   by_cases hij : i = j
   ·subst hij; exact Int.le_refl _
   ·have h0 : i = 0 := by lia
    have h1' : j = 1 := by lia
    subst h0 h1'
    have : kk key p 1 < kk key p (1 - 1) := dd
    simpa using Int.le_of_lt this
theorem zgy {p : Array Nat} {k : Nat} (hu : Up key p k) : ∀ (f l r : Nat), l <= r -> r <= k -> r - l <= f -> (∀ i, i < l -> kk key p i <= kk key p k) -> (∀ i, r <= i -> i < k -> kk key p k <= kk key p i) ->
  runT (ltK key) (kas_place p k f l r) <= k /\ (∀ i, i < runT (ltK key) (kas_place p k f l r) -> kk key p i <= kk key p k) /\ (∀ i, runT (ltK key) (kas_place p k f l r) <= i -> i < k -> kk key p k <= kk key p i)
 | 0, l, r, h1, h2, h3, h4, h5 => by
  have : l = r := by lia
  subst this
  exact ⟨by simp [kas_place, runT]; omega, h4, h5⟩
 | f + 1, l, r, h1, h2, h3, h4, h5 => by
  unfold kas_place
  by_cases hlr : l ≥ r
  ·have : l = r := by lia
   subst this
   rw [if_pos hlr]
   exact ⟨h2, h4, h5⟩
  ·rw [if_neg hlr]
   simp only [runT]
   by_cases hc : kk key p k < kk key p ((l + r) / 2)
   ·have e : ltK key (p.getD k 0) (p.getD ((l + r) / 2) 0) = true := decide_eq_true hc
    rw [e, if_pos rfl]
    exact zgy hu f l ((l + r) / 2) (by lia) (by lia) (by omega) h4 (fun i hi hk => Int.le_trans (Int.le_of_lt hc) (hu _ _ hi hk))
   ·have e : ltK key (p.getD k 0) (p.getD ((l + r) / 2) 0) = false := decide_eq_false hc
    rw [e, if_neg Bool.false_ne_true]
    exact zgy hu f ((l + r) / 2 + 1) r (by lia) h2 (by omega) (fun i hi => Int.le_trans (hu i ((l + r) / 2) (by lia) (by lia)) (by lia)) h5
theorem zr6 {p : Array Nat} {k d : Nat} (hk : k < p.size) (hd : d <= k) (i : Nat) : (bubble p k d).getD i 0 = if i = k - d then p.getD k 0 else if k - d < i /\ i <= k then p.getD (i - 1) 0 else p.getD i 0 := by
 have h := getElem?_bubble hk d hd i
 have e : ∀ (q : Array Nat) (m : Nat), q.getD m 0 = (q[m]?).getD 0 := fun q m => by simp [Array.getD_eq_getD_getElem?]
 rw [e, e, e, e, h]
 split
 ·rfl
 ·split <;> rfl
theorem zr1 : ∀ (f : Nat) (p : Array Nat) (k : Nat), k + f <= p.size -> Up key p k -> (runT (ltK key) (kas_bin f p k)).size = p.size /\ (runT (ltK key) (kas_bin f p k)).Perm p /\ Up key (runT (ltK key) (kas_bin f p k)) (k + f)
 | 0, p, k, h, hu => ⟨rfl, Array.Perm.refl _, hu⟩
 | f + 1, p, k, h, hu => by
  unfold kas_bin
  rw [zcz]
  obtain ⟨g1, g2, g3⟩ := zgy hu k 0 k (Nat.zero_le _) (Nat.le_refl _) (by lia) (fun i hi => absurd hi (Nat.not_lt_zero _)) (fun i h1 h2 => by lia)
  generalize runT (ltK key) (kas_place p k k 0 k) = l at g1 g2 g3
  have hb : ∀ i, kk key (bubble p k (k - l)) i = if i = l then kk key p k else if l < i /\ i <= k then kk key p (i - 1) else kk key p i := fun i => by
   unfold kk
   rw [zr6 (by lia) (by lia), show k - (k - l) = l by lia]
   split
   ·rfl
   ·split <;> rfl
  have hu' : Up key (bubble p k (k - l)) (k + 1) := by
   intro i j hij hj
   rw [hb, hb]
   by_cases hi1 : i = l
   ·rw [if_pos hi1]
    by_cases hj1 : j = l
    ·rw [if_pos hj1]; exact Int.le_refl _
    ·rw [if_neg hj1, if_pos ⟨by lia, by lia⟩]
     exact g3 (j - 1) (by lia) (by lia)
   ·rw [if_neg hi1]
    by_cases hi2 : l < i /\ i <= k
    ·rw [if_pos hi2]
     rw [if_neg (by lia), if_pos ⟨by lia, by lia⟩]
     exact hu _ _ (by omega) (by lia)
    ·rw [if_neg hi2]
     have hil : i < l := by lia
     by_cases hj1 : j = l
     ·rw [if_pos hj1]; exact g2 i hil
     ·rw [if_neg hj1]
      by_cases hj2 : l < j /\ j <= k
      ·rw [if_pos hj2]; exact hu _ _ (by lia) (by lia)
      ·rw [if_neg hj2]; exact hu _ _ hij (by lia)
  obtain ⟨b1, b2, b3⟩ := zr1 f (bubble p k (k - l)) (k + 1) (by rw [bubble_size]; lia) hu'
  exact ⟨by rw [b1, bubble_size], b2.trans (bubble_perm _ _ _), by rw [show k + (f + 1) = k + 1 + f by lia]; exact b3⟩
theorem zss {n : Nat} (h : 1 <= n) : (runT (ltK key) (kas_sort n)).size = n /\ (runT (ltK key) (kas_sort n)).Perm (List.range n).toArray /\ Up key (runT (ltK key) (kas_sort n)) n := by
 unfold kas_sort
 rw [zcz]
 have hsz : (List.toArray (List.range n)).size = n := by simp
 obtain ⟨c1, c2, c3, c4, c5⟩ := zra (key:=key) (p:=List.toArray (List.range n)) h (by rw [hsz]; exact Nat.le_refl _)
 generalize runT (ltK key) (kas_count n (List.toArray (List.range n))) = r at c1 c2 c3 c4 c5
 obtain ⟨m, p⟩ := r
 dsimp only at c1 c2 c3 c4 c5 ⊢
 rw [hsz] at c3
 by_cases hm : m < n
 ·rw [if_pos hm]
  have e : max m 1 = m := by lia
  rw [e]
  obtain ⟨b1, b2, b3⟩ := zr1 (key:=key) (n - m) p m (by lia) c5
  exact ⟨by rw [b1, c3], b2.trans c4, by rw [show n = m + (n - m) by lia]; rw [show m + (n - m) - m = n - m by lia]; exact b3⟩
 ·rw [if_neg hm]
  have : m = n := by lia
  subst this
  exact ⟨c3, c4, c5⟩
end
end L2
namespace L2
open PySem PySem.W PyProof.Rows
section
variable {prog : Program} {w : World} {A : Around} {E : Value -> Shared -> Prop} {s : Shared}
noncomputable def zev (h h' : Heap) : Prop := ∀ b o, h.get? b = some o -> h'.get? b = some o
noncomputable def zrm (prog : Program) (w : World) (A : Around) (s : Shared) (vs : List Value) (Out : Array Value -> Prop) : Prop :=
 ∃ κ, (∀ (Q : SortKind -> Shared -> Prop) (E : Value -> Shared -> Prop), Q κ s -> wpAny (model prog w) A (keyKind' vs.toArray) Q E s) /\
  ∀ (Q : SortSt -> Shared -> Prop) (E : Value -> Shared -> Prop), (∀ st', failedOf st' = none -> (arrOf st').size = vs.length -> Out ((arrOf st').map (·.2)) -> Q st' s) -> wpAny (model prog w) A (sortRuns'.run (SortSt.mk' κ (vs.toArray.zip vs.toArray) #[] 7 none)) (fun r s' => Q r.2 s') E s
theorem zhj {a : Addr} {vs : List Value} {n0 : Nat} {P : PySem.Fin -> Shared -> Prop} (Out : Array Value -> Prop) (ho : s.heap.get? a = some (seqObj "list" vs.toArray n0)) (hz : vs.length <= sizeLine)
  (hs : 2 <= vs.length -> ∀ h', (∀ b o, b ≠ a -> s.heap.get? b = some o -> h'.get? b = some o) -> zrm prog w A { s with heap := h' } vs Out) (h1 : vs.length < 2 -> Out vs.toArray)
  (h : ∀ out c h', (∀ b o, b ≠ a -> s.heap.get? b = some o -> h'.get? b = some o) -> h'.get? a = some (seqObj "list" out c) -> out.size = vs.length -> Out out -> P (.done (.ret .none)) { s with heap := h' }) :
  wpAny (model prog w) A (Builtin.«list.sort» ⟨[.ref a], []⟩) P E s := by
 have alt : a < s.heap.objs.size := Heap.lt_size ho
 rw [list_sort_plain]
 refine wpAny_bind (listItems_at ho rfl ?_)
 refine wpAny_bind (listUpdate_at ho rfl ?_ (by simpa using hz) (Nat.zero_le _))
 generalize hg1 : s.heap.update a (Obj.mapSeq fun _ => (#[] : Array Value)) = g1
 have k1 : ∀ b o, b ≠ a -> s.heap.get? b = some o -> g1.get? b = some o := fun b o hb e => by rw [<- hg1]; exact (Heap.get?_update_other _ _ (Ne.symm hb)).trans e
 obtain ⟨e1, ho1⟩ : ∃ e1, g1.get? a = some (seqObj "list" #[] e1) := by rw [<- hg1]; exact ⟨_, get?_update_seq ho fun _ => #[]⟩
 have sz1 : g1.objs.size = s.heap.objs.size := by rw [<- hg1, Heap.size_update]
 refine wpAny_bind (seqEpoch_at ho1 rfl ?_)
 refine wpAny_bind (wpAny_newTuple ?_ (by show vs.length <= _; exact hz))
 refine wpAny_bind (wpAny_newList ?_ (Nat.zero_le _))
 refine wpAny_holding ?_
 dsimp only
 generalize hg3 : (g1.push { cls := .type "tuple", data := .seq vs.toArray }).push { cls := .type "list", data := .seq #[] } = g3
 have k3 : ∀ b o, g1.get? b = some o -> g3.get? b = some o := fun b o e => by rw [<- hg3]; exact Heap.get?_push_of_some _ (Heap.get?_push_of_some _ e)
 have ho3 := k3 a _ ho1
 have keep : ∀ b o, b ≠ a -> s.heap.get? b = some o -> g3.get? b = some o := fun b o hb e => k3 b o (k1 b o hb e)
 have fin : ∀ (st' : SortSt), failedOf st' = none -> (arrOf st').size = vs.length -> Out ((arrOf st').map (·.2)) -> P (.done (.ret .none)) { s with heap := g3.update a (Obj.mapSeq fun _ => (arrOf st').map (·.2)) } := fun st' hf hsz hO => by
  obtain ⟨c2, hc2⟩ : ∃ c2, (g3.update a (Obj.mapSeq fun _ => (arrOf st').map (·.2))).get? a = some (seqObj "list" ((arrOf st').map (·.2)) c2) := ⟨_, get?_update_seq ho3 fun _ => (arrOf st').map (·.2)⟩
  exact h _ c2 _ (fun b o hb e => (Heap.get?_update_other _ _ (Ne.symm hb)).trans (keep b o hb e)) hc2 (by simpa using hsz) hO
 have hsz : vs.toArray.size = vs.length := by simp
 by_cases h2 : vs.length < 2
 ·rw [if_pos (by omega), if_pos (by omega)]
  refine wpAny_bind (wpAny_pure ?_)
  rw [StateT.run_pure]
  refine wpAny_bind (wpAny_pure ?_)
  have eo : (arrOf (SortSt.mk' general' (vs.toArray.zip vs.toArray) #[] 7 none)).map (·.2) = vs.toArray := by
   show (vs.toArray.zip vs.toArray).map (·.2) = vs.toArray
   apply Array.toList_inj.mp
   rw [Array.toList_map]
   have : (vs.toArray.zip vs.toArray).toList = vs.zip vs := by simp
   rw [this]
   simp [List.map_snd_zip]
  dsimp only
  refine wpAny_bind (seqEpoch_at ho3 rfl ?_)
  refine wpAny_bind (listUpdate_at ho3 rfl ?_ (Nat.zero_le _) (by rw [eo]; simp only [List.size_toArray]; lia))
  simp only [bne_self_eq_false, Bool.false_eq_true, if_false]
  exact wpAny_pure (fin (SortSt.mk' general' (vs.toArray.zip vs.toArray) #[] 7 none) rfl (by show (vs.toArray.zip vs.toArray).size = _; simp) (by rw [eo]; exact h1 h2))
 ·rw [if_neg (by omega), if_neg (by omega)]
  obtain ⟨κ, hk, hr⟩ := hs (by lia) g3 keep
  refine wpAny_bind (hk _ _ ?_)
  refine wpAny_bind (wpAny_mono (hr (fun st' s' => s' = { s with heap := g3 } /\ failedOf st' = none /\ (arrOf st').size = vs.length /\ Out ((arrOf st').map (·.2))) (fun _ _ => False) fun st' hf hsz hO => ⟨rfl, hf, hsz, hO⟩) ?_ fun _ _ x => x.elim)
  rintro ⟨⟨⟩, st'⟩ s' ⟨rfl, hf, hsz, hO⟩
  dsimp only at hf hsz hO ⊢
  refine wpAny_bind (seqEpoch_at ho3 rfl ?_)
  refine wpAny_bind (listUpdate_at ho3 rfl ?_ (Nat.zero_le _) (by simp only [Array.size_map]; lia))
  rw [hf]
  simp only [bne_self_eq_false, Bool.false_eq_true, if_false]
  exact wpAny_pure (fin st' hf hsz hO)
theorem zli {l : Addr} {vs : List Value} {Q : Value -> Shared -> Prop} (Out : Array Value -> Prop) (hl : s.heap.IsList l vs.toArray) (hz : vs.length <= sizeLine)
  (hs : 2 <= vs.length -> ∀ h', zev s.heap h' -> zrm prog w A.in1.in1 { s with heap := h' } vs Out) (h1 : vs.length < 2 -> Out vs.toArray)
  (h : ∀ out c h', zev s.heap h' -> h'.get? (s.heap.objs.size + 1) = some (seqObj "list" out c) -> out.size = vs.length -> Out out -> Q (.ref (s.heap.objs.size + 1)) { s with heap := h' }) :
  wpAny (model prog w) A (call (.builtin "sorted") [.ref l]) Q E s := by
 refine Calls.call_function_entry kind_sorted plain_sorted entry_sorted (args_sorted1 _) ?_
 unfold Builtin.«sorted»
 refine wpAny_bind (m:=checkCount "sorted" 1 1 _) (wpAny_pure ?_)
 refine wpAny_bind (collect_list hl ?_ hz)
 refine wpAny_bind (wpAny_newList ?_ hz)
 generalize hg1 : (s.heap.push (seqObj "list" #[] 0)).update s.heap.objs.size (Obj.mapSeq (· ++ vs.toArray)) = g1
 have sz1 : g1.objs.size = s.heap.objs.size + 1 := by rw [<- hg1, Heap.size_update, size_push']
 have k1 : zev s.heap g1 := fun b o e => by
  have hlt := Heap.lt_size e
  rw [<- hg1]
  exact (Heap.get?_update_other _ _ (Nat.ne_of_gt hlt)).trans (Heap.get?_push_of_some _ e)
 dsimp only
 have ho : (g1.push { cls := .type "list", data := .seq vs.toArray }).get? (s.heap.objs.size + 1) = some (seqObj "list" vs.toArray 0) := by rw [<- sz1]; exact Heap.get?_push_size _ rfl
 have k2 : zev s.heap (g1.push { cls := .type "list", data := .seq vs.toArray }) := fun b o e => Heap.get?_push_of_some _ (k1 b o e)
 rw [sz1]
 have ne : ∀ b o, s.heap.get? b = some o -> b ≠ s.heap.objs.size + 1 := fun b o e => Nat.ne_of_lt (Nat.lt_succ_of_lt (Heap.lt_size e))
 refine wpAny_bind (wpAny_holding (wpAny_call_entry slot_list_sort ⟨_, ho, rfl⟩ entry_list_sort (zhj (s:={ s with heap := g1.push { cls := .type "list", data := .seq vs.toArray } }) Out ho hz
  (fun h2 h' k => hs h2 h' fun b o e => k b o (ne b o e) (k2 b o e)) h1 fun out c h' k hc hsz hO => ⟨_, rfl, ?_⟩) (args_list_sort _)))
 exact wpAny_pure ⟨_, rfl, h out c h' (fun b o e => k b o (ne b o e) (k2 b o e)) hc hsz hO⟩
end
end L2
namespace L2
open PySem PySem.W PyProof.Rows
noncomputable def InR {α : Type} (n : Nat) (P : α -> Prop) : KasT α -> Prop
 | .ret a => P a
 | .ask i j k => i < n /\ j < n /\ ∀ b, InR n P (k b)
theorem InR.bind {α β : Type} {n : Nat} {f : α -> KasT β} {P : α -> Prop} {Q : β -> Prop} (hf : ∀ a, P a -> InR n Q (f a)) : ∀ {t : KasT α}, InR n P t -> InR n Q (t.bind f)
 | .ret a, h => hf a h
 | .ask i j k, h => ⟨h.1, h.2.1, fun b => InR.bind hf (h.2.2 b)⟩
theorem zm4 {α : Type} {cmp : Nat -> Nat -> (Bool -> Shared -> Prop) -> Shared -> Prop} {lt : Nat -> Nat -> Bool} {Q : α -> Shared -> Prop} {s : Shared} {n : Nat} {P : α -> Prop} (h : ∀ i j C, i < n -> j < n -> C (lt i j) s -> cmp i j C s) : ∀ {t : KasT α}, InR n P t -> Q (runT lt t) s -> t.kasWp cmp Q s
 | .ret _, _, q => q
 | .ask i j k, r, q => h i j _ r.1 r.2.1 (zm4 h (r.2.2 _) q)
noncomputable def Ent (n : Nat) (p : Array Nat) : Prop := ∀ i, p.getD i 0 < n
theorem Ent.perm {n : Nat} {p q : Array Nat} (h : Ent n p) (hp : q.Perm p) (hn : 0 < n) : Ent n q := fun i => by
 have e : ∀ (q : Array Nat) (m : Nat), q.getD m 0 = (q[m]?).getD 0 := fun q m => by simp [Array.getD_eq_getD_getElem?]
 rw [e]
 cases hq : q[i]? with
 | none => exact hn
 | some x =>
  have hx : x ∈ q := Array.mem_of_getElem? hq
  have hx2 : x ∈ p := hp.mem_iff.mp hx
  obtain ⟨j, hj, ej⟩ := Array.mem_iff_getElem.mp hx2
  have := h j
  rw [e, Array.getElem?_eq_getElem hj, ej] at this
  exact this
theorem Ent.rev {n : Nat} {p : Array Nat} (h : Ent n p) (hn : 0 < n) (i j : Nat) : Ent n (kas_rev p i j) := h.perm (mirror_perm _ _ _ _) hn
section
variable {n : Nat} (hn : 0 < n)
theorem zpz {p : Array Nat} (h : Ent n p) : ∀ f m, InR n (fun _ : Nat => True) (kas_asc p f m)
 | 0, _ => trivial
 | f + 1, m => ⟨h _, h _, fun b => by cases b <;> simp only [if_true, Bool.false_eq_true, if_false]; exact zpz h f (m + 1); trivial⟩
include hn in
theorem zix : ∀ f {p : Array Nat} m q, Ent n p -> InR n (fun r : Array Nat × Nat × Nat => Ent n r.1) (kas_desc f p m q)
 | 0, _, _, _, h => h
 | f + 1, p, m, q, h => ⟨h _, h _, fun b => by
   cases b with
   | true =>
    simp only [if_true]
    split
    ·exact zix f _ _ (h.rev hn _ _)
    ·exact zix f _ _ h
   | false =>
    simp only [Bool.false_eq_true, if_false]
    exact ⟨h _, h _, fun c => by
     cases c with
     | true => simp only [if_true]; exact h
     | false => simp only [Bool.false_eq_true, if_false]; exact zix f _ _ h⟩⟩
include hn in
theorem zms {p : Array Nat} (h : Ent n p) (m r : Nat) : InR n (fun r : Nat × Array Nat => Ent n r.2) (kas_tail3 m r p) := by
 unfold kas_tail3
 refine InR.bind (P:=fun _ : Nat => True) (fun a _ => ?_) (zpz (h.rev hn _ _) _ _)
 exact h.rev hn _ _
include hn in
theorem zgh {p : Array Nat} (h : Ent n p) (m r : Nat) : InR n (fun r : Nat × Array Nat => Ent n r.2) (kas_descPart m r p) := by
 unfold kas_descPart
 refine InR.bind (fun a ha => ?_) (zix hn _ _ _ h)
 split
 ·exact zms hn (ha.rev hn _ _) _ _
 ·exact zms hn ha _ _
include hn in
theorem ztm {p : Array Nat} (h : Ent n p) (r : Nat) : InR n (fun r : Nat × Array Nat => Ent n r.2) (kas_count r p) := by
 unfold kas_count
 refine InR.bind (fun m _ => ?_) (zpz h _ _)
 split
 ·exact h
 ·split
  ·refine ⟨h _, h _, fun b => ?_⟩
   cases b with
   | true => simp only [if_true]; exact h
   | false => simp only [Bool.false_eq_true, if_false]; exact zgh hn (h.rev hn _ _) _ _
  ·exact zgh hn h _ _
theorem zne {p : Array Nat} (h : Ent n p) (k : Nat) : ∀ f l r, InR n (fun _ : Nat => True) (kas_place p k f l r)
 | 0, _, _ => trivial
 | f + 1, l, r => by
  unfold kas_place
  split
  ·trivial
  ·exact ⟨h _, h _, fun b => by cases b <;> simp only [if_true, Bool.false_eq_true, if_false] <;> exact zne h k f _ _⟩
include hn in
theorem zuj : ∀ f {p : Array Nat} k, Ent n p -> InR n (fun q : Array Nat => Ent n q) (kas_bin f p k)
 | 0, _, _, h => h
 | f + 1, p, k, h => by
  unfold kas_bin
  exact InR.bind (fun l _ => zuj f _ (h.perm (bubble_perm _ _ _) hn)) (zne h k _ _ _)
include hn in
theorem zus : InR n (fun q : Array Nat => Ent n q) (kas_sort n) := by
 unfold kas_sort
 have h0 : Ent n (List.toArray (List.range n)) := fun i => by
  have e : ∀ (q : Array Nat) (m : Nat), q.getD m 0 = (q[m]?).getD 0 := fun q m => by simp [Array.getD_eq_getD_getElem?]
  rw [e]
  by_cases hi : i < n
  ·simp [hi]
  ·simp [hi]; exact hn
 refine InR.bind (fun r hr => ?_) (ztm hn h0 n)
 split
 ·exact zuj hn _ _ hr
 ·exact hr
end
section
variable {prog : Program} {w : World} {A : Around} {s : Shared}
noncomputable def OutK (key : Nat -> Int) (vs : List Value) (out : Array Value) : Prop := ∃ p : List Nat, p.Perm (List.range vs.length) /\ out.toList = p.map (fun i => vs.getD i Value.none) /\ p.Pairwise fun i j => key i <= key j
theorem zl1 {κ : SortKind} {vs : List Value} {key : Nat -> Int} (h2 : 2 <= vs.length) (h64 : vs.length < 64)
  (hk : ∀ (Q : SortKind -> Shared -> Prop) (E : Value -> Shared -> Prop), Q κ s -> wpAny (model prog w) A (keyKind' vs.toArray) Q E s)
  (hlt : ∀ i j (C : Bool -> Shared -> Prop), i < vs.length -> j < vs.length -> C (decide (key i < key j)) s -> wpAny (model prog w) A (keyLt' κ (vs.getD i Value.none) (vs.getD j Value.none)) C (fun _ _ => False) s) :
  zrm prog w A s vs (OutK key vs) := by
 refine ⟨κ, hk, fun Q E hQ => ?_⟩
 obtain ⟨s1, s2, s3⟩ := zss (key:=key) (n:=vs.length) (by lia)
 refine kat_run (Q:=fun st' s' => Q st' s') (G:=fun p s' => s' = s /\ p = runT (ltK key) (kas_sort vs.length)) rfl h2 h64 (fun p st' s' hp har hf hG => ?_) (zm4 (lt:=ltK key) (fun i j C hi hj hc => hlt i j C hi hj hc) (zus (n:=vs.length) (by lia)) ⟨rfl, rfl⟩)
 obtain ⟨rfl, rfl⟩ := hG
 have hout := kat_snds rfl har
 refine hQ st' hf (by rw [har, Array.size_map, s1]) ⟨(runT (ltK key) (kas_sort vs.length)).toList, ?_, ?_, ?_⟩
 ·have := s2.toList
  simpa using this
 ·rw [hout]
 ·generalize runT (ltK key) (kas_sort vs.length) = q at s1 s3
  rw [List.pairwise_iff_getElem]
  intro i j hi hj hij
  have h := s3 i j (by lia) (by simpa [s1] using hj)
  unfold kk at h
  have e : ∀ m (hm : m < q.toList.length), q.getD m 0 = q.toList[m] := fun m hm => by
   have hm' : m < q.size := by simpa using hm
   simp [Array.getD, hm']
  rw [e i hi, e j hj] at h
  exact h
end
end L2
namespace L2
open PySem PySem.W PyProof.Rows
noncomputable def D.fo : D -> List Int
 | .str l => l.map Int.ofNat
 | .int i => [i]
 | _ => []
noncomputable def D.ord : D -> List (List Int)
 | .tup ds => ds.map D.fo
 | .lst ds => ds.map D.fo
 | d => [d.fo]
noncomputable def D.leB (a b : D) : Bool := decide (a.ord <= b.ord)
noncomputable def zdg (ds : List D) : List D := ds.mergeSort D.leB
inductive Ty where | s | i
noncomputable def Ty.ok : Ty -> D -> Bool
 | .s, .str _ => true
 | .i, .int _ => true
 | _, _ => false
noncomputable def shOk : List Ty -> List D -> Bool
 | [], [] => true
 | t :: ts, d :: ds => t.ok d && shOk ts ds
 | _, _ => false
noncomputable def zdw (ds : List D) : Prop := (∀ d ∈ ds, Ty.ok .s d = true) \/ (∀ d ∈ ds, Ty.ok .i d = true) \/ ∃ t ts, ∀ d ∈ ds, ∃ es, d = .tup es /\ shOk (t :: ts) es = true
theorem zrs {l m : List Nat} (h : l.map Int.ofNat = m.map Int.ofNat) : l = m := by
 induction l generalizing m with
 | nil => cases m with
  | nil => rfl
  | cons _ _ => simp at h
 | cons a l ih => cases m with
  | nil => simp at h
  | cons b m =>
   simp only [List.map_cons, List.cons.injEq, Int.ofNat_eq_natCast] at h
   rw [show a = b by lia, ih h.2]
theorem ofNat_lt (l m : List Nat) : l < m ↔ l.map Int.ofNat < m.map Int.ofNat := by
 induction l generalizing m with
 | nil => cases m <;> simp
 | cons a l ih => cases m with
  | nil => simp
  | cons b m =>
   simp only [List.map_cons, List.cons_lt_cons_iff, ih m, Int.ofNat_eq_natCast]
   constructor
   ·rintro (h | ⟨h, x⟩)
    ·exact .inl (by lia)
    ·exact .inr ⟨by lia, x⟩
   ·rintro (h | ⟨h, x⟩)
    ·exact .inl (by lia)
    ·exact .inr ⟨by lia, x⟩
theorem znb {t : Ty} {d e : D} (h1 : t.ok d = true) (h2 : t.ok e = true) (h : d.fo = e.fo) : d = e := by
 cases t <;> cases d <;> simp [Ty.ok] at h1 <;> cases e <;> simp [Ty.ok] at h2
 ·rw [zrs h]
 ·simp [D.fo] at h; rw [h]
theorem zrf : ∀ {ts : List Ty} {ds es : List D}, shOk ts ds = true -> shOk ts es = true -> ds.map D.fo = es.map D.fo -> ds = es
 | [], ds, es, h1, h2, _ => by cases ds <;> cases es <;> simp [shOk] at h1 h2; rfl
 | t :: ts, ds, es, h1, h2, h => by
  cases ds with
  | nil => simp [shOk] at h1
  | cons d ds => cases es with
   | nil => simp [shOk] at h2
   | cons e es =>
    simp only [shOk, Bool.and_eq_true] at h1 h2
    simp only [List.map_cons, List.cons.injEq] at h
    rw [znb h1.1 h2.1 h.1, zrf h1.2 h2.2 h.2]
theorem zx4 (x y : List Int) : [x] < [y] ↔ x < y := by simp [List.cons_lt_cons_iff]
theorem zvg {ds : List D} (h : zdw ds) {a b : D} (ha : a ∈ ds) (hb : b ∈ ds) (e : a.ord = b.ord) : a = b := by
 rcases h with h | h | ⟨t, ts, h⟩
 ·have h1 := h a ha
  have h2 := h b hb
  cases a <;> simp [Ty.ok] at h1
  cases b <;> simp [Ty.ok] at h2
  simp only [D.ord, List.cons.injEq, and_true] at e
  exact znb (t:=.s) rfl rfl e
 ·have h1 := h a ha
  have h2 := h b hb
  cases a <;> simp [Ty.ok] at h1
  cases b <;> simp [Ty.ok] at h2
  simp only [D.ord, List.cons.injEq, and_true] at e
  exact znb (t:=.i) rfl rfl e
 ·obtain ⟨es, rfl, h1⟩ := h a ha
  obtain ⟨fs, rfl, h2⟩ := h b hb
  simp only [D.ord] at e
  rw [zrf h1 h2 e]
theorem zrk (a b c : D) (h1 : a.leB b = true) (h2 : b.leB c = true) : a.leB c = true := decide_eq_true (List.le_trans (of_decide_eq_true h1) (of_decide_eq_true h2))
theorem zpt (a b : D) : (a.leB b || b.leB a) = true := by
 rcases List.le_total a.ord b.ord with h | h
 ·simp [D.leB, h]
 ·simp [D.leB, h]
theorem zb3 (ds : List D) : (zdg ds).Perm ds := List.mergeSort_perm _ _
theorem zfh (ds : List D) : (zdg ds).Pairwise fun a b => a.leB b = true := List.pairwise_mergeSort zrk zpt ds
theorem zig {ds es : List D} (h : zdw ds) (hp : es.Perm ds) (hs : es.Pairwise fun a b => a.leB b = true) : es = zdg ds := by
 refine List.Perm.eq_of_pairwise (le:=fun a b => a.leB b = true) (fun a b ha hb h1 h2 => ?_) hs (zfh ds) (hp.trans (zb3 ds).symm)
 exact zvg h (hp.mem_iff.mp ha) ((zb3 ds).mem_iff.mp hb) (List.le_antisymm (of_decide_eq_true h1) (of_decide_eq_true h2))
noncomputable def rk (ds : List D) (i : Nat) : Int := ((ds.filter fun d => decide (d.ord < (ds.getD i .non).ord)).length : Nat)
theorem zc6 {α : Type} {p q : α -> Bool} (h : ∀ x, p x = true -> q x = true) : ∀ l : List α, (l.filter p).length <= (l.filter q).length
 | [] => Nat.le_refl _
 | x :: l => by
  have ih := zc6 h l
  simp only [List.filter_cons]
  cases hp : p x with
  | false =>
   cases hq : q x with
   | false => simpa using ih
   | true => simp; lia
  | true => rw [h x hp]; simp; omega
theorem zek {α : Type} {p q : α -> Bool} (h : ∀ x, p x = true -> q x = true) {y : α} (hy : q y = true) (hn : p y = false) : ∀ l : List α, y ∈ l -> (l.filter p).length < (l.filter q).length
 | [], hm => by simp at hm
 | x :: l, hm => by
  have le := zc6 h l
  simp only [List.filter_cons]
  rcases List.mem_cons.mp hm with rfl | hm
  ·rw [hy, hn]; simp; lia
  ·have ih := zek h hy hn l hm
   cases hp : p x with
   | false =>
    cases hq : q x with
    | false => simpa using ih
    | true => simp; lia
   | true => rw [h x hp]; simp; omega
theorem zu1 {ds : List D} {i j : Nat} (hi : i < ds.length) : decide (rk ds i < rk ds j) = decide ((ds.getD i .non).ord < (ds.getD j .non).ord) := by
 have hm : ds.getD i .non ∈ ds := by rw [List.getD_eq_getElem?_getD, List.getElem?_eq_getElem hi]; exact List.getElem_mem _
 unfold rk
 generalize ds.getD i .non = a at hm
 generalize ds.getD j .non = b
 by_cases h : a.ord < b.ord
 ·rw [decide_eq_true h]
  refine decide_eq_true ?_
  have := zek (p:=fun d : D => decide (d.ord < a.ord)) (q:=fun d : D => decide (d.ord < b.ord)) (fun x hx => decide_eq_true (List.lt_trans (of_decide_eq_true hx) h)) (y:=a) (decide_eq_true h) (decide_eq_false (List.lt_irrefl _)) ds hm
  lia
 ·rw [decide_eq_false h]
  refine decide_eq_false ?_
  have := zc6 (p:=fun d : D => decide (d.ord < b.ord)) (q:=fun d : D => decide (d.ord < a.ord)) (fun x hx => by
   have hx := of_decide_eq_true hx
   refine decide_eq_true ?_
   by_cases hxa : x.ord < a.ord
   ·exact hxa
   ·exact absurd hx (List.not_lt.mpr (List.le_trans (List.not_lt.mp h) (List.not_lt.mp hxa)))) ds
  lia
theorem zxk {ds : List D} {i j : Nat} (hi : i < ds.length) (hj : j < ds.length) (h : rk ds i <= rk ds j) : (ds.getD i .non).leB (ds.getD j .non) = true := by
 have := zu1 (ds:=ds) (i:=j) (j:=i) hj
 rw [decide_eq_false (by lia)] at this
 exact decide_eq_true (List.not_lt.mp (of_decide_eq_false this.symm))
section
variable {prog : Program} {w : World} {A : Around} {E : Value -> Shared -> Prop} {s : Shared}
noncomputable def FV : D -> Value -> Prop
 | .str l, u => ∃ t, u = .str (T l) t
 | .int i, u => ∃ t, u = .int i t
 | _, _ => False
theorem zvz {t : Ty} {d e : D} {u v : Value} (h1 : t.ok d = true) (h2 : t.ok e = true) (ru : FV d u) (rv : FV e v) {Q : Bool -> Shared -> Prop} (q : Q (decide (d = e)) s) : wpAny (model prog w) A (eqBool u v) Q E s := by
 cases t <;> cases d <;> simp [Ty.ok] at h1 <;> cases e <;> simp [Ty.ok] at h2
 ·obtain ⟨t, rfl⟩ := ru
  obtain ⟨t', rfl⟩ := rv
  refine SeqAt.EqAt.str_str _ _ _ _ prog w E Q ?_
  rename_i l m
  have : (T l == T m) = decide (D.str l = D.str m) := by
   rw [Bool.eq_iff_iff]; simp [zsn]
  rw [this]; exact q
 ·obtain ⟨t, rfl⟩ := ru
  obtain ⟨t', rfl⟩ := rv
  refine SeqAt.EqAt.int_int _ _ _ _ prog w E Q ?_
  rename_i i j
  have : (i == j) = decide (D.int i = D.int j) := by
   rw [Bool.eq_iff_iff]; simp
  rw [this]; exact q
theorem zqs {t : Ty} {d e : D} {u v : Value} (h1 : t.ok d = true) (h2 : t.ok e = true) (ru : FV d u) (rv : FV e v) (f : Bool) {Q : Bool -> Shared -> Prop} (q : Q (decide (d.fo < e.fo)) s) : wpAny (model prog w) A (oneLt' f u v) Q E s := by
 cases t <;> cases d <;> simp [Ty.ok] at h1 <;> cases e <;> simp [Ty.ok] at h2
 ·obtain ⟨t, rfl⟩ := ru
  obtain ⟨t', rfl⟩ := rv
  rename_i l m
  have ee : decide ((T l).cps.toList < (T m).cps.toList) = decide ((D.str l).fo < (D.str m).fo) := by
   rw [zdh, zdh, Bool.eq_iff_iff, decide_eq_true_eq, decide_eq_true_eq]
   exact ofNat_lt l m
  cases f with
  | true => exact oneLt_str (by rw [ee]; exact q)
  | false => exact kat_one _ _ (lt_str (by show Q _ _; rw [ee]; exact q))
 ·obtain ⟨t, rfl⟩ := ru
  obtain ⟨t', rfl⟩ := rv
  rename_i i j
  have ee : decide (i < j) = decide ((D.int i).fo < (D.int j).fo) := by
   rw [Bool.eq_iff_iff]
   simp [D.fo, List.cons_lt_cons_iff]
  cases f with
  | true => exact oneLt_int (by rw [ee]; exact q)
  | false => exact kat_one _ _ (lt_int (by show Q _ _; rw [ee]; exact q))
inductive FVs : List D -> List Value -> Prop
 | nil : FVs [] []
 | cons {d ds u us} : FV d u -> FVs ds us -> FVs (d :: ds) (u :: us)
theorem zmn {b : Bool} {Q : Bool -> Shared -> Prop} : ∀ {ts : List Ty} {ds es : List D} {us vs : List Value} (i : Nat), shOk ts ds = true -> shOk ts es = true -> FVs ds us -> FVs es vs -> Q (decide (ds.map D.fo < es.map D.fo)) s -> KatLex prog w A b false Q (us.zip vs) i s
 | [], ds, es, _, _, i, h1, h2, r1, r2, q => by
  cases ds <;> cases es <;> simp [shOk] at h1 h2
  cases r1; cases r2
  exact kat_nil (by simpa using q)
 | t :: ts, ds, es, _, _, i, h1, h2, r1, r2, q => by
  cases r1 with
  | nil => simp [shOk] at h1
  | cons a1 a2 =>
   cases r2 with
   | nil => simp [shOk] at h2
   | cons b1 b2 =>
    rename_i d ds u us e es v vs
    simp only [shOk, Bool.and_eq_true] at h1 h2
    rw [List.zip_cons_cons]
    refine kat_cons (zvz h1.1 h2.1 a1 b1 ?_)
    by_cases hde : d = e
    ·subst hde
     rw [decide_eq_true rfl]
     refine kat_yes (zmn (i + 1) h1.2 h2.2 a2 b2 ?_)
     have : decide (ds.map D.fo < es.map D.fo) = decide ((d :: ds).map D.fo < (d :: es).map D.fo) := by
      rw [Bool.eq_iff_iff]
      simp only [decide_eq_true_eq, List.map_cons, List.cons_lt_cons_iff]
      exact ⟨fun h => .inr ⟨trivial, h⟩, fun h => h.elim (fun z => absurd z (List.lt_irrefl _)) fun z => z.2⟩
     rw [this]; exact q
    ·rw [decide_eq_false hde]
     refine kat_no (zqs h1.1 h2.1 a1 b1 _ ?_)
     have hf : ¬ d.fo = e.fo := fun z => hde (znb h1.1 h2.1 z)
     have : decide (d.fo < e.fo) = decide ((d :: ds).map D.fo < (e :: es).map D.fo) := by
      rw [Bool.eq_iff_iff]
      simp only [decide_eq_true_eq, List.map_cons, List.cons_lt_cons_iff]
      exact ⟨fun h => .inl h, fun h => h.elim id fun z => absurd z.1 hf⟩
     rw [this]; exact q
end
end L2
set_option maxHeartbeats 1000000
namespace L2
open PySem PySem.W PyProof.Rows
end L2
namespace L2
open PySem PySem.W PyProof.Rows
structure MI (R : Nat -> Nat -> Prop) (ua ub o : List Nat) (i j : Nat) : Prop where
 hi : i <= ua.length
 hj : j <= ub.length
 pw : o.Pairwise R
 pa : ∀ x ∈ o, ∀ y ∈ ua.drop i, R x y
 pb : ∀ x ∈ o, ∀ y ∈ ub.drop j, R x y
 pm : o.Perm (ua.take i ++ ub.take j)
end L2
set_option maxHeartbeats 2000000
namespace L2
open PySem PySem.W PyProof.Rows
end L2
namespace L2
open PySem PySem.W PyProof.Rows
end L2
namespace L2
open PySem PySem.W PyProof.Rows
noncomputable def Seg (key : Nat -> Int) (p : Array Nat) (i j : Nat) : Prop := ∀ s t, i <= s -> s <= t -> t < j -> kk key p s <= kk key p t
end L2
namespace L2
open PySem PySem.W PyProof.Rows
end L2
namespace L2
open PySem PySem.W PyProof.Rows
noncomputable def Runs (key : Nat -> Int) (p : Array Nat) : List (Nat × Nat × Nat) -> Nat -> Nat -> Prop
 | [], lo, hi => lo = hi
 | r :: l, lo, hi => r.1 = lo /\ 0 < r.2.1 /\ Seg key p lo (lo + r.2.1) /\ Runs key p l (lo + r.2.1) hi
end L2
set_option maxHeartbeats 4000000
namespace L2
open PySem PySem.W PyProof.Rows
theorem Vals.pick {xs : List V} {us : List Value} (r : Vals xs us) : ∀ p : List Nat, (∀ i ∈ p, i < xs.length) -> Vals (p.map fun i => xs.getD i .non) (p.map fun i => us.getD i Value.none)
 | [], _ => .nil
 | i :: p, h => by
  have hi := h i List.mem_cons_self
  obtain ⟨u, hu, ru⟩ := r.get (List.getElem?_eq_getElem hi)
  refine .cons ?_ (Vals.pick r p fun j hj => h j (List.mem_cons_of_mem _ hj))
  show RelV (xs.getD i .non) (us.getD i Value.none)
  rw [List.getD_eq_getElem?_getD, List.getElem?_eq_getElem hi, List.getD_eq_getElem?_getD, hu]
  exact ru
theorem Reps.pick {K : PySem.W.Frag} {H : Hp} {ds : List D} {xs : List V} (r : Reps K H ds xs) : ∀ p : List Nat, (∀ i ∈ p, i < ds.length) -> Reps K H (p.map fun i => ds.getD i .non) (p.map fun i => xs.getD i .non)
 | [], _ => Reps.nil
 | i :: p, h => by
  have hi := h i List.mem_cons_self
  obtain ⟨u, hu, ru⟩ := r.get' (List.getElem?_eq_getElem hi)
  refine Reps.cons ?_ (Reps.pick r p fun j hj => h j (List.mem_cons_of_mem _ hj))
  show Rep K H (ds.getD i .non) (xs.getD i .non)
  rw [List.getD_eq_getElem?_getD, List.getElem?_eq_getElem hi, List.getD_eq_getElem?_getD, hu]
  exact ru
section
variable {X : Cx} {pins : List (Addr × Obj)} {σ : St} {H : Hp} {s : Shared}
theorem FV.of {t : Ty} {d : D} {x : V} {u : Value} (ht : t.ok d = true) (r : Rep X.K H d x) (q : RelV x u) : FV d u := by
 cases t <;> cases d <;> simp [Ty.ok] at ht
 ·rw [r.of_str] at q; exact q
 ·rw [r.of_int] at q; exact q
theorem FVs.of : ∀ {ts : List Ty} {ds : List D} {xs : List V} {us : List Value}, shOk ts ds = true -> Reps X.K H ds xs -> Vals xs us -> FVs ds us
 | [], ds, _, _, ht, r, q => by
  cases ds <;> simp [shOk] at ht
  rw [Reps] at r; subst r; cases q; exact .nil
 | t :: ts, ds, _, _, ht, r, q => by
  cases ds with
  | nil => simp [shOk] at ht
  | cons d ds =>
   simp only [shOk, Bool.and_eq_true] at ht
   rw [Reps] at r
   obtain ⟨x, xs, rfl, r1, r2⟩ := r
   cases q with
   | cons q1 q2 => exact .cons (FV.of ht.1 r1 q1) (FVs.of ht.2 r2 q2)
noncomputable def TV (h : Heap) (es : List D) (u : Value) : Prop := ∃ a o its n, u = .ref a /\ h.get? a = some o /\ o.cls = .type "tuple" /\ o.data = .seq its n /\ FVs es its.toList
theorem Inv.tv (I : Inv X pins σ H s) {ts : List Ty} {es : List D} {x : V} {u : Value} (ht : shOk ts es = true) (r : Rep X.K H (.tup es) x) (q : RelV x u) : TV s.heap es u := by
 obtain ⟨p, xs, rfl, sq, rs⟩ := r.of_tup
 cases q
 obtain ⟨its, rv, ⟨o, e, c, n, hd⟩, _⟩ := I.tuple sq
 exact ⟨p, o, its.toArray, n, rfl, e, c, hd, by simpa using FVs.of ht rs rv⟩
theorem zm3 {ds : List D} {xs : List V} {us : List Value} (rs : Reps X.K H ds xs) (rv : Vals xs us) {i : Nat} (hi : i < us.length) : ∃ x, Rep X.K H (ds.getD i .non) x /\ RelV x (us.getD i Value.none) /\ ds.getD i .non ∈ ds := by
 have l1 := rs.length
 have l2 := rv.length
 obtain ⟨x, hx, r⟩ := rs.get' (List.getElem?_eq_getElem (show i < ds.length by lia))
 obtain ⟨u, hu, ru⟩ := rv.get hx
 refine ⟨x, ?_, ?_, ?_⟩
 ·rw [List.getD_eq_getElem?_getD, List.getElem?_eq_getElem (show i < ds.length by lia)]; exact r
 ·rw [List.getD_eq_getElem?_getD, hu]; exact ru
 ·rw [List.getD_eq_getElem?_getD, List.getElem?_eq_getElem (show i < ds.length by lia)]; exact List.getElem_mem _
theorem mem_getD {us : List Value} {v : Value} (h : v ∈ us) : ∃ i, i < us.length /\ v = us.getD i Value.none := by
 obtain ⟨i, hi, e⟩ := List.getElem_of_mem h
 exact ⟨i, hi, by rw [List.getD_eq_getElem?_getD, List.getElem?_eq_getElem hi]; exact e.symm⟩
noncomputable def Ty.tv : Ty -> Value
 | .s => .type "str"
 | .i => .type "int"
noncomputable def zwv (prog : Program) (w : World) (A : Around) (s : Shared) (vs : List Value) (key : Nat -> Int) : Prop :=
 ∃ κ, (∀ (Q : SortKind -> Shared -> Prop) (E : Value -> Shared -> Prop), Q κ s -> wpAny (model prog w) A (keyKind' vs.toArray) Q E s) /\
  ∀ i j (C : Bool -> Shared -> Prop), i < vs.length -> j < vs.length -> C (decide (key i < key j)) s -> wpAny (model prog w) A (keyLt' κ (vs.getD i Value.none) (vs.getD j Value.none)) C (fun _ _ => False) s
theorem zqu {h' : Heap} {ds : List D} {xs : List V} {us : List Value} {A' : Around} (I : Inv X pins σ H s) (rs : Reps X.K H ds xs) (rv : Vals xs us) (hal : zdw ds) (h2 : 2 <= us.length) (k : zev s.heap h') :
  zwv X.prog X.w A' { s with heap := h' } us (rk ds) := by
 have l1 := rs.length
 have l2 := rv.length
 have flat : ∀ (t : Ty) (T0 : Value), (∀ d u, t.ok d = true -> FV d u -> typeOf u = pure T0) -> (T0 != Value.type "tuple") = true -> (T0 == T0) = true -> (∀ d ∈ ds, t.ok d = true) -> zwv X.prog X.w A' { s with heap := h' } us (rk ds) := fun t T0 hty hT1 hT2 ht => by
  have fv : ∀ i, i < us.length -> FV (ds.getD i .non) (us.getD i Value.none) /\ t.ok (ds.getD i .non) = true := fun i hi => by
   obtain ⟨x, r, q, hm⟩ := zm3 rs rv hi
   exact ⟨FV.of (ht _ hm) r q, ht _ hm⟩
  refine ⟨oneType', fun Q E q => kas_kind h2 (T:=T0) (fun v hv => ?_) hT1 hT2 q, fun i j C hi hj hC => ?_⟩
  ·obtain ⟨i, hi, rfl⟩ := mem_getD hv
   obtain ⟨f, o⟩ := fv i hi
   rw [hty _ _ o f]
   exact .now
  ·obtain ⟨f1, o1⟩ := fv i hi
   obtain ⟨f2, o2⟩ := fv j hj
   rw [keyLt'_oneType]
   refine zqs o1 o2 f1 f2 true ?_
   rw [zu1 (by lia)] at hC
   have e : ∀ d : D, t.ok d = true -> d.ord = [d.fo] := fun d hd => by cases t <;> cases d <;> simp [Ty.ok] at hd <;> rfl
   rw [e _ o1, e _ o2] at hC
   have : decide ((ds.getD i .non).fo < (ds.getD j .non).fo) = decide ([(ds.getD i .non).fo] < [(ds.getD j .non).fo]) := by
    rw [Bool.eq_iff_iff, decide_eq_true_eq, decide_eq_true_eq]; exact (zx4 _ _).symm
   rw [this]; exact hC
 rcases hal with ht | ht | ⟨t, ts, ht⟩
 ·exact flat .s (.type "str") (fun d u hd f => by cases d <;> simp [Ty.ok] at hd; obtain ⟨t, rfl⟩ := f; rfl) (by decide) (by decide) ht
 ·exact flat .i (.type "int") (fun d u hd f => by cases d <;> simp [Ty.ok] at hd; obtain ⟨t, rfl⟩ := f; rfl) (by decide) (by decide) ht
 ·have tv : ∀ i, i < us.length -> ∃ es, ds.getD i .non = .tup es /\ shOk (t :: ts) es = true /\ TV h' es (us.getD i Value.none) := fun i hi => by
   obtain ⟨x, r, q, hm⟩ := zm3 rs rv hi
   obtain ⟨es, e, ho⟩ := ht _ hm
   rw [e] at r
   obtain ⟨a, o, its, n, eu, ho', hc, hd, fv⟩ := I.tv ho r q
   exact ⟨es, e, ho, a, o, its, n, eu, k a o ho', hc, hd, fv⟩
  obtain ⟨T0, hT0, hb, hbb⟩ : ∃ T0 : Value, (T0 = t.tv) /\ (T0 != Value.type "tuple") = true /\ (T0 == T0) = true := ⟨t.tv, rfl, by cases t <;> decide, by cases t <;> decide⟩
  have hfs : ∀ (l : List Value), (∀ v ∈ l, ∃ es, shOk (t :: ts) es = true /\ TV h' es v) -> ∃ fs, KatTups h' l fs /\ fs.length = l.length /\ ∀ f ∈ fs, typeOf f = pure T0 := by
   intro l
   induction l with
   | nil => intro _; exact ⟨[], KatTups.nil, rfl, by simp⟩
   | cons v l ih =>
    intro h
    obtain ⟨fs, h1, h2, h3⟩ := ih fun u hu => h u (List.mem_cons_of_mem _ hu)
    obtain ⟨es, ho, a, o, its, n, rfl, hg, hc, hd, fv⟩ := h v List.mem_cons_self
    cases es with
    | nil => simp [shOk] at ho
    | cons d es =>
     simp only [shOk, Bool.and_eq_true] at ho
     cases hits : its.toList with
     | nil => rw [hits] at fv; cases fv
     | cons f fr =>
      rw [hits] at fv
      cases fv with
      | cons fd _ =>
       have h0 : its[0]? = some f := by
        have : its.toList[0]? = some f := by rw [hits]; rfl
        simpa using this
       refine ⟨f :: fs, KatTups.cons hg hc hd h0 h1, by simp [h2], fun g hgm => ?_⟩
       rcases List.mem_cons.mp hgm with rfl | hgm
       ·cases t <;> cases d <;> simp [Ty.ok] at ho
        ·obtain ⟨t', rfl⟩ := fd; rw [hT0]; rfl
        ·obtain ⟨t', rfl⟩ := fd; rw [hT0]; rfl
       ·exact h3 g hgm
  obtain ⟨fs, hk1, hk2, hk3⟩ := hfs us fun v hv => by
   obtain ⟨i, hi, rfl⟩ := mem_getD hv
   obtain ⟨es, _, ho, tvv⟩ := tv i hi
   exact ⟨es, ho, tvv⟩
  refine ⟨tuples' (T0 != Value.type "tuple"), fun Q E q => kat_kind (s:={ s with heap := h' }) (T:=T0) hk1 (by lia) (fun v hv => ?_) hbb q, fun i j C hi hj hC => ?_⟩
  ·rw [hk3 v hv]; exact .now
  ·obtain ⟨es, e1, o1, a, o, its, n, eu, hg, hc, hd, fv⟩ := tv i hi
   obtain ⟨es', e1', o1', a', o', its', n', eu', hg', hc', hd', fv'⟩ := tv j hj
   rw [eu, eu']
   rw [zu1 (by lia), e1, e1'] at hC
   have sz : ∀ {ts : List Ty} {es : List D} {us : List Value}, shOk ts es = true -> FVs es us -> us.length = ts.length := by
    intro ts
    induction ts with
    | nil => intro es us h f; cases f with
     | nil => rfl
     | cons _ _ => simp [shOk] at h
    | cons t ts ih => intro es us h f; cases f with
     | nil => simp [shOk] at h
     | cons _ f => simp only [shOk, Bool.and_eq_true] at h; simp [ih h.2 f]
   have z1 := sz o1 fv
   have z2 := sz o1' fv'
   refine kat_lt (s:={ s with heap := h' }) hg hd hg' hd' ?_
   rw [decide_eq_false (by simp at z1 z2; lia)]
   exact zmn 0 o1 o1' fv fv' hC
theorem zhy {r : Nat -> Int} {us : List Value} (h : us.length < 2) : OutK r us us.toArray := by
 refine ⟨List.range us.length, List.Perm.refl _, ?_, ?_⟩
 ·match us, h with
  | [], _ => rfl
  | [v], _ => rfl
 ·match us, h with
  | [], _ => simp
  | [v], _ => simp
end
end L2
set_option maxHeartbeats 2000000
namespace L2
open PySem PySem.W PySem.Spec PyProof.Rows
noncomputable def cutD (xs : List D) (lo hi : Option Int) : List D := (xs.drop (HT.sIx xs.length 0 lo)).take (HT.sIx xs.length xs.length hi - HT.sIx xs.length 0 lo)
theorem Reps.cut {K : PySem.W.Frag} {H : Hp} {ds : List D} {xs : List V} (lo hi : Option Int) (h : Reps K H ds xs) : Reps K H (cutD ds lo hi) (cutV xs lo hi) := by
 unfold cutD cutV
 rw [<- h.length]
 exact (h.drop _).take _
section
variable {K : PySem.W.Frag} {G H₀ L : Hp} {ss : List Sl} {t ta tb : TE} {d : D} {ds : List D}
theorem zf9 (a : EvL K G H₀ L ss t ds) : Ev K G H₀ L ss (tCB (fun xs H Q => ∃ p ys, xs = [.ref p] /\ (SqL K H p ys \/ SqT K H p ys) /\ Q (.int ys.length) H) (zbe t tNil)) (.int ds.length) := fun F H σ Q S q =>
 a F H σ _ S fun p vs F' H' e sq r => ⟨p, vs, rfl, .inl sq, q _ _ _ e (by rw [<- r.length]; exact Rep.int)⟩
theorem zpe {l : List Nat} (a : EvB K G H₀ L ss t (.str l)) (hz : l.length <= sizeLine) : Ev K G H₀ L ss (tCB (fun xs H Q => ∃ z : Str, xs = [.str z] /\ z.length <= sizeLine /\ Q (.int z.length) H) (zbe t tNil)) (.int l.length) := fun F H σ Q S q =>
 a F H σ _ S fun v F' H' e r => by
  rw [r.of_str]
  exact ⟨T l, rfl, by rw [zbl]; exact hz, q _ _ _ e (by rw [zbl]; exact Rep.int)⟩
theorem zsc (a : EvL K G H₀ L ss t ds) : EvO K G H₀ L ss (tCB (fun xs H Q => ∃ p ys, xs = [.ref p] /\ (SqL K H p ys \/ SqT K H p ys) /\ ∀ l, H l = none -> Q (.ref l) (upd H l (.lst ys))) (zbe t tNil)) ds := fun F H σ Q S q =>
 a F H σ _ S fun p vs F' H' e sq r => ⟨p, vs, rfl, .inl sq, fun l hl => q l vs F' _ (e.newO hl) (e.hh.free hl) (e.fh.free hl) zal r⟩
noncomputable def EvP (K : PySem.W.Frag) (G H₀ L : Hp) (ss : List Sl) (t : TO) (o : Option Int) : Prop := ∀ F H σ (Q : Option Int -> Hp -> Prop), Sat K G H₀ L F H σ ss -> (∀ F' H', Ext F H F' H' -> Q o H') -> t σ H Q
theorem zxo : EvP K G H₀ L ss zpc none := fun F H σ Q S q => q _ _ (Ext.refl S.ext.fh)
theorem zic {i : Int} (a : EvB K G H₀ L ss t (.int i)) : EvP K G H₀ L ss (zyf t) (some i) := fun F H σ Q S q => a F H σ _ S fun v F' H' e r => ⟨i, r.of_int, q _ _ e⟩
theorem zqk {tl th : TO} {lo hi : Option Int} (a : EvL K G H₀ L ss t ds) (b : EvP K G H₀ L ss tl lo) (c : EvP K G H₀ L ss th hi) : EvO K G H₀ L ss (tSl (rSlL K) t tl th) (cutD ds lo hi) := fun F H σ Q S q =>
 a F H σ _ S fun p vs F1 H1 e1 sq r => b F1 H1 σ _ (S.ext2 e1) fun F2 H2 e2 => c F2 H2 σ _ ((S.ext2 e1).ext2 e2) fun F3 H3 e3 =>
  ⟨p, vs, rfl, SqL.same e3.hh (SqL.same e2.hh sq), fun l hl => q l _ F3 _ (((e1.trans e2).trans e3).newO hl) (((e1.trans e2).trans e3).hh.free hl) (((e1.trans e2).trans e3).fh.free hl) zal (((r.mono e2.gf).mono e3.gf).cut lo hi)⟩
noncomputable def glue (z : List Nat) : List (List Nat) -> List Nat
 | [] => []
 | [x] => x
 | x :: y :: r => x ++ z ++ glue z (y :: r)
end
theorem zt1 (z : List Nat) : ∀ ls : List (List Nat), Str.join (T z) (ls.map T) = T (glue z ls)
 | [] => rfl
 | [x] => rfl
 | x :: y :: r => by
  have ih := zt1 z (y :: r)
  rw [List.map_cons] at ih
  rw [List.map_cons, List.map_cons]
  show T x ++ T z ++ Str.join (T z) (T y :: r.map T) = _
  rw [ih, zvn, zvn]; rfl
theorem zl6 {z : List Nat} (hz : ∀ c ∈ z, c < 128) : ∀ {ls : List (List Nat)}, (∀ l ∈ ls, ∀ c ∈ l, c < 128) -> ∀ c ∈ glue z ls, c < 128
 | [], _, c, h => by cases h
 | [x], hl, c, h => hl x List.mem_cons_self c h
 | x :: y :: r, hl, c, h => by
  rw [glue] at h
  rcases List.mem_append.mp h with h | h
  ·rcases List.mem_append.mp h with h | h
   ·exact hl x List.mem_cons_self c h
   ·exact hz c h
  ·exact zl6 hz (ls:=y :: r) (fun l hm => hl l (List.mem_cons_of_mem _ hm)) c h
theorem Reps.strs {K : PySem.W.Frag} {H : Hp} : ∀ {ls : List (List Nat)} {vs : List V}, Reps K H (ls.map D.str) vs -> vs = (ls.map T).map V.str /\ ∀ l ∈ ls, ∀ c ∈ l, c < 128
 | [], vs, h => by rw [List.map_nil, Reps] at h; subst h; exact ⟨rfl, by simp⟩
 | l :: ls, vs, h => by
  rw [List.map_cons, Reps] at h
  obtain ⟨x, xs, rfl, h1, h2⟩ := h
  obtain ⟨e, ha⟩ := h2.strs
  refine ⟨by rw [h1.of_str, e]; rfl, fun m hm => ?_⟩
  rcases List.mem_cons.mp hm with rfl | hm
  ·exact h1.asc
  ·exact ha m hm
section
variable {K : PySem.W.Frag} {G H₀ L : Hp} {ss : List Sl} {t ta tb : TE} {d : D} {ds : List D}
theorem zpr {z : List Nat} {ls : List (List Nat)} (a : EvB K G H₀ L ss ta (.str z)) (b : EvL K G H₀ L ss t (ls.map D.str)) (hz : (ls.map List.length).sum + ls.length * z.length <= 16777216) : Ev K G H₀ L ss (tBM K "str" (zxq K) ta (zbe t tNil)) (.str (glue z ls)) := fun F H σ Q S q =>
 a F H σ _ S fun v F1 H1 e1 r1 => by
  rw [r1.of_str]
  refine ⟨rfl, b F1 H1 σ _ (S.ext2 e1) fun p vs F2 H2 e2 sq r2 => ?_⟩
  obtain ⟨rfl, ha⟩ := r2.strs
  refine ⟨T z, p, ls.map T, rfl, rfl, sq, ?_, ?_⟩
  ·rw [List.map_map, List.length_map, zbl, show ((fun x : Str => x.length) ∘ T) = List.length from funext fun l => zbl l]; exact hz
  ·rw [zt1]
   exact q _ _ _ (e1.trans e2) (Rep.str (zl6 r1.asc ha))
end
noncomputable def zcy (goes : Nat -> Bool) (l : List Nat) : List Nat := ((l.dropWhile goes).reverse.dropWhile goes).reverse
theorem zb8 (g : Nat -> Bool) : ∀ l : List Nat, l.drop (l.takeWhile g).length = l.dropWhile g
 | [] => rfl
 | x :: l => by
  rw [List.takeWhile_cons, List.dropWhile_cons]
  cases g x with
  | true => simp only [if_true, List.length_cons, List.drop_succ_cons]; exact zb8 g l
  | false => rfl
theorem zvr (l y : List Nat) : Txt.stripChars (T l) (T y) = T (zcy y.contains l) := by
 have ct : (T y).cps.contains = y.contains := by funext c; simp [T]
 have key : PySem.stripped y.contains true true (T l) = T (zcy y.contains l) := by
  unfold PySem.stripped PySem.stripLo PySem.stripHi
  simp only [if_true, zdh, zbl]
  rw [zb8]
  have h1 : (l.takeWhile y.contains).length + (l.dropWhile y.contains).length = l.length := by
   rw [<- List.length_append, List.takeWhile_append_dropWhile]
  have e : Builtin.Str.strSub (T l) (l.takeWhile y.contains).length (l.length - ((l.dropWhile y.contains).reverse.takeWhile y.contains).length) = T ((l.drop (l.takeWhile y.contains).length).take (l.length - ((l.dropWhile y.contains).reverse.takeWhile y.contains).length - (l.takeWhile y.contains).length)) := by
   unfold Builtin.Str.strSub
   congr 1
   apply Array.toList_inj.mp
   rw [Array.toList_extract]
   show List.extract (T l).cps.toList _ _ = _
   rw [zdh]
  rw [e, zb8]
  congr 1
  unfold zcy
  have h2 := zb8 y.contains (l.dropWhile y.contains).reverse
  rw [<- h2]
  have h3 : ((l.dropWhile y.contains).reverse.takeWhile y.contains).length <= (l.dropWhile y.contains).length := by
   have := (List.takeWhile_sublist (p:=y.contains) (l:=(l.dropWhile y.contains).reverse)).length_le
   simpa using this
  rw [List.drop_reverse, List.reverse_reverse]
  congr 1; omega
 unfold Txt.stripChars Txt.stripBy
 rw [ct]
 split
 ·rename_i h
  rw [<- key]
  unfold stripSame at h
  simp only [Bool.and_eq_true, beq_iff_eq] at h
  unfold PySem.stripped
  rw [h.2, h.1]
  unfold Builtin.Str.strSub
  have : (T l).cps.extract 0 (T l).length = (T l).cps := by
   show (T l).cps.extract 0 (T l).cps.size = _
   simp
  rw [this]
 ·exact key
noncomputable def zpy : V -> List V -> Hp -> VK -> Prop := fun x vs H Q => ∃ z y, x = .str z /\ vs = [.str y] /\ z.length <= sizeLine /\ Q (.str (Txt.stripChars z y)) H
section
variable {X : Cx}
theorem zkw : MtR X "str.strip" zpy := by
 intro pins s σ H x xs v us Q I rx rs h
 obtain ⟨z, y, rfl, rfl, hz, q⟩ := h
 obtain ⟨t, rfl⟩ := rx
 obtain ⟨u, rfl, ru⟩ := Vals.one rs
 obtain ⟨u, rfl⟩ := ru
 exact SC.stripChars (fun t' k => ⟨.str _, H, I.tok _, ⟨_, rfl⟩, q⟩) hz
end
section
variable {K : PySem.W.Frag} {G H₀ L : Hp} {ss : List Sl} {t ta tb : TE} {d : D} {ds : List D}
theorem zmy {l y : List Nat} (a : EvB K G H₀ L ss ta (.str l)) (b : EvB K G H₀ L ss t (.str y)) (hz : l.length <= sizeLine) : Ev K G H₀ L ss (tBM K "str" zpy ta (zbe t tNil)) (.str (zcy y.contains l)) := fun F H σ Q S q =>
 a F H σ _ S fun v F1 H1 e1 r1 => by
  rw [r1.of_str]
  refine ⟨rfl, b F1 H1 σ _ (S.ext2 e1) fun v2 F2 H2 e2 r2 => ?_⟩
  refine ⟨T l, T y, rfl, by rw [r2.of_str], by rw [zbl]; exact hz, ?_⟩
  rw [zvr]
  refine q _ _ _ (e1.trans e2) (Rep.str fun c hc => r1.asc c ?_)
  unfold zcy at hc
  exact (List.dropWhile_sublist _).subset (List.mem_reverse.mp ((List.dropWhile_sublist _).subset (List.mem_reverse.mp hc)))
end
end L2
namespace L2
open PySem PySem.W PySem.Spec PyProof.Rows
noncomputable def rAll (K : PySem.W.Frag) : List V -> Hp -> VK -> Prop := fun xs H Q => ∃ p, ∃ bs : List Bool, xs = [.ref p] /\ SqL K H p (bs.map V.bl) /\ Q (.bl (bs.all id)) H
section
variable {X : Cx} {prog : Program} {w : World} {A : Around} {E : Value -> Shared -> Prop} {s : Shared}
theorem ztw {h' : Heap} {o : Obj} {k : Nat} (hk : ∀ b x, b ∉ [s.heap.objs.size] -> (s.heap.push o).get? b = some x -> h'.get? b = some x) : zev s.heap h' := fun b x e => by
 refine hk b x (fun hm => ?_) (Heap.get?_push_of_some _ e)
 have h1 := Heap.lt_size e
 rw [List.mem_singleton.mp hm] at h1
 exact Nat.lt_irrefl _ h1
theorem zqx : ∀ {bs : List Bool} {us : List Value}, Vals (bs.map V.bl) us -> us = bs.map Value.bool
 | [], _, .nil => rfl
 | b :: bs, _, .cons r1 r2 => by rw [zqx r2]; cases r1; rfl
theorem znq : ∀ bs : List Bool, ((List.range bs.length).all fun i => (bs[i]?).getD true) = bs.all id := fun bs => by
 rw [Bool.eq_iff_iff, List.all_eq_true, List.all_eq_true]
 constructor
 ·intro h b hb
  obtain ⟨i, hi, e⟩ := List.getElem_of_mem hb
  have := h i (List.mem_range.mpr hi)
  rw [List.getElem?_eq_getElem hi, Option.getD_some, e] at this
  exact this
 ·intro h i hi
  have hi' := List.mem_range.mp hi
  rw [List.getElem?_eq_getElem hi', Option.getD_some]
  exact h _ (List.getElem_mem hi')
theorem zm5 (hc : X.calm = true) : zca X (.builtin "all") (rAll X.K) := by
 intro pins s σ H xs us Q I r h
 obtain ⟨p, bs, rfl, hq, q⟩ := h
 obtain ⟨u, rfl, ru⟩ := zfo r
 cases ru
 obtain ⟨its, rv, pl, _⟩ := I.list hq
 obtain rfl := zqx rv
 have hl := pl.isList
 have hlt : p < s.heap.objs.size := by obtain ⟨_, e, _⟩ := hl; exact Heap.lt_size e
 refine call_all_walk (wpAny_pyIter_list hl ⟨s.heap.objs.size, [s.heap.objs.size, p], [s.heap.objs.size], (bs.map Value.bool).toArray.size, _, _, fun i => (bs[i]?).getD true, rfl,
  Walks.list (A:=X.A.in1) (I.ok.hd hc) _ p (Nat.ne_of_lt hlt) _, ⟨⟨_, Heap.get?_push_size _ rfl, rfl, rfl⟩, hl.push _⟩, fun i v s' Q' E' hP hQ => ?_, fun h' tk hk => ?_⟩)
 ·have hP' : (bs.map Value.bool)[i]? = some v := by simpa using hP
  rw [List.getElem?_map] at hP'
  cases hb : bs[i]? with
  | none => rw [hb] at hP'; cases hP'
  | some b =>
   rw [hb] at hP'
   cases hP'
   simp only [hb, Option.getD_some] at hQ
   exact wpAny_truthy_bool hQ
 ·have e : ((List.range (bs.map Value.bool).toArray.size).all fun i => (bs[i]?).getD true) = bs.all id := by
   rw [List.size_toArray, List.length_map]; exact znq bs
  rw [e]
  exact ⟨.bl _, H, I.kept (ztw (k:=0) hk), rfl, q⟩
noncomputable def two (x y : Str) (t u : Tok) : Array Value := #[.str x t, .str y u]
theorem zl5 {x y : Str} {t u : Tok} : ∀ (i : Nat) (v : Value), (two x y t u)[i]? = some v -> ∃ k, v = .str (if i = 0 then x else y) k
 | 0, v, h => ⟨t, by simp [two] at h; simp [h.symm]⟩
 | 1, v, h => ⟨u, by simp [two] at h; simp [h.symm]⟩
 | i + 2, v, h => by simp [two] at h
theorem zi0 {x y : Str} {t u : Tok} {Q : Value -> Shared -> Prop} (hh : A.handled = none)
  (h : ∀ h' tk, zev s.heap h' -> Q (if y.cps.toList < x.cps.toList then .str y u else .str x t) { s with heap := h', toks := tk }) : wpAny (model prog w) A (call (.builtin "min") [.str x t, .str y u]) Q E s := by
 have hT : (s.heap.push { cls := .type "tuple", data := .seq (two x y t u) }).IsTuple s.heap.objs.size (two x y t u) := ⟨_, Heap.get?_push_size _ rfl, rfl, 0, rfl⟩
 have hsz : (s.heap.push { cls := .type "tuple", data := .seq (two x y t u) }).objs.size = s.heap.objs.size + 1 := Heap.size_push ..
 refine call_min_two (wpAny_pyIter_tuple hT ?_)
 refine ⟨_, [_, s.heap.objs.size], [_], _, _, _, fun i j => decide ((if i = 0 then x else y).cps.toList < (if j = 0 then x else y).cps.toList), rfl, Walks.tuple (A:=A.in1) hh _ s.heap.objs.size (Nat.ne_of_lt (by rw [Heap.size_push]; lia)) (two x y t u), ⟨⟨_, Heap.get?_push_size _ rfl, rfl, rfl⟩, hT.push _⟩, fun c hc => ?_, by simp [two], ?_, fun v h' tk hP hk => ?_⟩
 ·show c < ((s.heap.push _).push _).objs.size
  rw [Heap.size_push, Heap.size_push]
  simp only [List.mem_cons, List.not_mem_nil, or_false] at hc
  rcases hc with rfl | rfl
  ·rw [Heap.size_push]; exact Nat.lt_succ_self _
  ·exact Nat.lt_succ_of_lt (Nat.lt_succ_self _)
 ·intro i j vi vj s' Q' E' hi hj hq
  obtain ⟨k1, rfl⟩ := zl5 i vi hi
  obtain ⟨k2, rfl⟩ := zl5 j vj hj
  exact richCompare_gives (op:=.Lt) (typeIs_str _ _ _) (typeIs_str _ _ _) F.slot_str_lt F.entry_str_lt (F.args_str_lt_2 _ _) (gives_str_lt _ _ _ _) (fun e => nomatch e) hq
 ·have hold : zev s.heap h' := fun c o e => by
   have h1 := Heap.lt_size e
   refine hk c o (fun hm => ?_) (Heap.get?_push_of_some _ (Heap.get?_push_of_some _ e))
   rw [List.mem_singleton.mp hm, Heap.size_push] at h1; exact absurd (Nat.lt_of_succ_lt h1) (Nat.lt_irrefl _)
  have := h h' tk hold
  have hsz2 : (two x y t u).size - 1 = 1 := by simp [two]
  have hP' : (two x y t u)[argBest (fun i j => decide ((if i = 0 then x else y).cps.toList < (if j = 0 then x else y).cps.toList)) 1]? = some v := by rw [<- hsz2]; exact hP
  by_cases hyx : y.cps.toList < x.cps.toList
  ·have e : argBest (fun i j => decide ((if i = 0 then x else y).cps.toList < (if j = 0 then x else y).cps.toList)) 1 = 1 := by simp [argBest, hyx]
   rw [e] at hP'
   rw [if_pos hyx] at this
   simp [two] at hP'
   rw [<- hP']; exact this
  ·have e : argBest (fun i j => decide ((if i = 0 then x else y).cps.toList < (if j = 0 then x else y).cps.toList)) 1 = 0 := by simp [argBest, hyx]
   rw [e] at hP'
   rw [if_neg hyx] at this
   simp [two] at hP'
   rw [<- hP']; exact this
theorem zh1 {x y : Str} {t u : Tok} {Q : Value -> Shared -> Prop} (hh : A.handled = none)
  (h : ∀ h' tk, zev s.heap h' -> Q (if x.cps.toList < y.cps.toList then .str y u else .str x t) { s with heap := h', toks := tk }) : wpAny (model prog w) A (call (.builtin "max") [.str x t, .str y u]) Q E s := by
 have hT : (s.heap.push { cls := .type "tuple", data := .seq (two x y t u) }).IsTuple s.heap.objs.size (two x y t u) := ⟨_, Heap.get?_push_size _ rfl, rfl, 0, rfl⟩
 have hsz : (s.heap.push { cls := .type "tuple", data := .seq (two x y t u) }).objs.size = s.heap.objs.size + 1 := Heap.size_push ..
 refine call_max_two (wpAny_pyIter_tuple hT ?_)
 refine ⟨_, [_, s.heap.objs.size], [_], _, _, _, fun i j => decide ((if j = 0 then x else y).cps.toList < (if i = 0 then x else y).cps.toList), rfl, Walks.tuple (A:=A.in1) hh _ s.heap.objs.size (Nat.ne_of_lt (by rw [Heap.size_push]; lia)) (two x y t u), ⟨⟨_, Heap.get?_push_size _ rfl, rfl, rfl⟩, hT.push _⟩, fun c hc => ?_, by simp [two], ?_, fun v h' tk hP hk => ?_⟩
 ·show c < ((s.heap.push _).push _).objs.size
  rw [Heap.size_push, Heap.size_push]
  simp only [List.mem_cons, List.not_mem_nil, or_false] at hc
  rcases hc with rfl | rfl
  ·rw [Heap.size_push]; exact Nat.lt_succ_self _
  ·exact Nat.lt_succ_of_lt (Nat.lt_succ_self _)
 ·intro i j vi vj s' Q' E' hi hj hq
  obtain ⟨k1, rfl⟩ := zl5 i vi hi
  obtain ⟨k2, rfl⟩ := zl5 j vj hj
  exact richCompare_gives (op:=.Gt) (typeIs_str _ _ _) (typeIs_str _ _ _) F.slot_str_gt F.entry_str_gt (F.args_str_gt_2 _ _) (gives_str_gt _ _ _ _) (fun e => nomatch e) hq
 ·have hold : zev s.heap h' := fun c o e => by
   have h1 := Heap.lt_size e
   refine hk c o (fun hm => ?_) (Heap.get?_push_of_some _ (Heap.get?_push_of_some _ e))
   rw [List.mem_singleton.mp hm, Heap.size_push] at h1; exact absurd (Nat.lt_of_succ_lt h1) (Nat.lt_irrefl _)
  have := h h' tk hold
  have hsz2 : (two x y t u).size - 1 = 1 := by simp [two]
  have hP' : (two x y t u)[argBest (fun i j => decide ((if j = 0 then x else y).cps.toList < (if i = 0 then x else y).cps.toList)) 1]? = some v := by rw [<- hsz2]; exact hP
  by_cases hyx : x.cps.toList < y.cps.toList
  ·have e : argBest (fun i j => decide ((if j = 0 then x else y).cps.toList < (if i = 0 then x else y).cps.toList)) 1 = 1 := by simp [argBest, hyx]
   rw [e] at hP'
   rw [if_pos hyx] at this
   simp [two] at hP'
   rw [<- hP']; exact this
  ·have e : argBest (fun i j => decide ((if j = 0 then x else y).cps.toList < (if i = 0 then x else y).cps.toList)) 1 = 0 := by simp [argBest, hyx]
   rw [e] at hP'
   rw [if_neg hyx] at this
   simp [two] at hP'
   rw [<- hP']; exact this
theorem zjf (hc : X.calm = true) : zca X (.builtin "min") (fun xs H Q => ∃ l m : List Nat, xs = [.str (T l), .str (T m)] /\ Q (.str (T (if m < l then m else l))) H) := by
 intro pins s σ H xs us Q I r h
 obtain ⟨l, m, rfl, q⟩ := h
 obtain ⟨u, w', rfl, ⟨t, rfl⟩, ⟨t', rfl⟩⟩ := zke r
 refine zi0 (I.ok.hd hc) fun h' tk k => ⟨_, H, I.kept k, ?_, q⟩
 rw [zdh, zdh]
 split <;> exact ⟨_, rfl⟩
theorem zj3 (hc : X.calm = true) : zca X (.builtin "max") (fun xs H Q => ∃ l m : List Nat, xs = [.str (T l), .str (T m)] /\ Q (.str (T (if l < m then m else l))) H) := by
 intro pins s σ H xs us Q I r h
 obtain ⟨l, m, rfl, q⟩ := h
 obtain ⟨u, w', rfl, ⟨t, rfl⟩, ⟨t', rfl⟩⟩ := zke r
 refine zh1 (I.ok.hd hc) fun h' tk k => ⟨_, H, I.kept k, ?_, q⟩
 rw [zdh, zdh]
 split <;> exact ⟨_, rfl⟩
end
end L2
namespace L2
open PySem PySem.W PySem.Spec PyProof.Rows PySem.Calls
open PySem.MeetsSeq PySem.MeetsSeq2 PySem.MeetsSeq3
section
variable {K : PySem.W.Frag} {G H₀ L : Hp} {ss : List Sl} {t ta tb : TE} {d : D} {ds es : List D}
theorem Reps.bools {H : Hp} : ∀ {bs : List Bool} {vs : List V}, Reps K H (bs.map D.bl) vs -> vs = bs.map V.bl
 | [], vs, h => by rw [List.map_nil, Reps] at h; exact h
 | b :: bs, vs, h => by
  rw [List.map_cons, Reps] at h
  obtain ⟨x, xs, rfl, h1, h2⟩ := h
  rw [h1.of_bl, h2.bools]; rfl
theorem zwu {bs : List Bool} (a : EvL K G H₀ L ss t (bs.map D.bl)) : Ev K G H₀ L ss (tCB (rAll K) (zbe t tNil)) (.bl (bs.all id)) := fun F H σ Q S q =>
 a F H σ _ S fun p vs F1 H1 e1 sq r1 => ⟨p, bs, rfl, by rw [r1.bools] at sq; exact sq, q _ _ _ e1 Rep.bl⟩
noncomputable def minL (l m : List Nat) : List Nat := if m < l then m else l
noncomputable def maxL (l m : List Nat) : List Nat := if l < m then m else l
theorem zop {l m : List Nat} (a : EvB K G H₀ L ss ta (.str l)) (b : EvB K G H₀ L ss tb (.str m)) : Ev K G H₀ L ss (tCB (fun xs H Q => ∃ l m : List Nat, xs = [.str (T l), .str (T m)] /\ Q (.str (T (if m < l then m else l))) H) (zbe ta (zbe tb tNil))) (.str (minL l m)) := fun F H σ Q S q =>
 a F H σ _ S fun v F1 H1 e1 r1 => b F1 H1 σ _ (S.ext2 e1) fun v2 F2 H2 e2 r2 => ⟨l, m, by rw [r1.of_str, r2.of_str], q _ _ _ (e1.trans e2) (Rep.str (by unfold minL; split; exact r2.asc; exact r1.asc))⟩
theorem zrr {l m : List Nat} (a : EvB K G H₀ L ss ta (.str l)) (b : EvB K G H₀ L ss tb (.str m)) : Ev K G H₀ L ss (tCB (fun xs H Q => ∃ l m : List Nat, xs = [.str (T l), .str (T m)] /\ Q (.str (T (if l < m then m else l))) H) (zbe ta (zbe tb tNil))) (.str (maxL l m)) := fun F H σ Q S q =>
 a F H σ _ S fun v F1 H1 e1 r1 => b F1 H1 σ _ (S.ext2 e1) fun v2 F2 H2 e2 r2 => ⟨l, m, by rw [r1.of_str, r2.of_str], q _ _ _ (e1.trans e2) (Rep.str (by unfold maxL; split; exact r2.asc; exact r1.asc))⟩
end
end L2
namespace L2
open PySem PySem.W PySem.Spec PyProof.Rows
noncomputable def slots (n : Nat) (ds : List D) : List Sl := ds.map Sl.d ++ List.replicate (n - ds.length) .un
section
variable {K : PySem.W.Frag} {H : Hp} {vs : List V} {Q : VK} {X : XK} {N : List Str} {t : TS} {pre : List D -> Prop}
theorem zdt {G : Hp} {ds : List D} (sm : Same G H) (r : Reps K G ds vs) (hN : vs.length <= N.length) : Sat K G H G G H (start N vs) (slots N.length ds) := by
 have hl := r.length
 have ads : ∀ (i : Nat) s, (slots N.length ds)[i]? = some s -> s.ads = [] := fun i s hs => by
  have hm := List.mem_of_getElem? hs
  unfold slots at hm
  rcases List.mem_append.mp hm with h | h
  ·obtain ⟨d, _, rfl⟩ := List.mem_map.mp h; rfl
  ·rw [List.eq_of_mem_replicate h]; rfl
 refine ⟨Ext.refl sm, Same.refl _, ?_, fun i s hs => ?_, fun i s hs => by rw [ads i s hs]; exact List.nodup_nil, fun i j s s' _ hs _ p hp => by rw [ads i s hs] at hp; cases hp⟩
 ·unfold start slots; simp; lia
 ·by_cases hi : i < ds.length
  ·have e : (slots N.length ds)[i]? = some (.d ds[i]) := by
    unfold slots
    rw [List.getElem?_append_left (by simpa using hi), List.getElem?_map, List.getElem?_eq_getElem hi]; rfl
   rw [e] at hs
   cases hs
   obtain ⟨v, hv, rv⟩ := r.get' (List.getElem?_eq_getElem hi)
   refine ⟨v, ?_, rv⟩
   unfold start
   rw [List.getD_eq_getElem?_getD, List.getElem?_append_left (by simp; lia), List.getElem?_map, hv]; rfl
  ·have hm : s = .un := by
    unfold slots at hs
    rw [List.getElem?_append_right (by simp; lia)] at hs
    exact List.eq_of_mem_replicate (List.mem_of_getElem? hs)
   rw [hm]; trivial
theorem zeu {res : List D -> D} (h : SpD K pre res vs H Q X) (hN : vs.length <= N.length) (body : ∀ G ds, pre ds -> RtD K G H Q (res ds) -> Go K G H G { nx := fun _ H' => Q .non H', rt := Q } (slots N.length ds) t) : t { nx := fun _ H' => Q .non H', rt := Q } (start N vs) H := by
 obtain ⟨G, ds, sm, r, hp, q⟩ := h
 exact body G ds hp (fun v F H' e r => q v F H' e r) G H _ (zdt sm r hN)
theorem zqh {res : List D -> List D} (h : SpO K pre res vs H Q X) (hN : vs.length <= N.length) (body : ∀ G ds, pre ds -> RtO K G H Q (res ds) -> Go K G H G { nx := fun _ H' => Q .non H', rt := Q } (slots N.length ds) t) : t { nx := fun _ H' => Q .non H', rt := Q } (start N vs) H := by
 obtain ⟨G, ds, sm, r, hp, q⟩ := h
 exact body G ds hp (fun p ws F H' e h1 h2 h3 r => q p ws F H' e h1 h2 h3 r) G H _ (zdt sm r hN)
theorem zbi {res : List D -> D} {n : Nat} (hpre : ∀ ds, pre ds -> ds.length = n) (h : SpD K pre res vs H Q X) : vs.length = n := by
 obtain ⟨G, ds, sm, r, hp, q⟩ := h
 rw [<- r.length]; exact hpre ds hp
theorem ze7 {res : List D -> List D} {n : Nat} (hpre : ∀ ds, pre ds -> ds.length = n) (h : SpO K pre res vs H Q X) : vs.length = n := by
 obtain ⟨G, ds, sm, r, hp, q⟩ := h
 rw [<- r.length]; exact hpre ds hp
end
section
variable {K : PySem.W.Frag} {G H₀ L : Hp} {ss : List Sl} {t ta tb : TE} {d : D} {ds es : List D} {i j : Int}
theorem zcc (a : EvB K G H₀ L ss ta (.int i)) (b : EvB K G H₀ L ss tb (.int j)) (h : 0 < j) : Ev K G H₀ L ss (tOp (rI (fun _ j => 0 < j) fun i j => .int (i % j)) ta tb) (.int (i % j)) := zp7 (C:=fun _ j => 0 < j) (g:=fun i j => i % j) a b h
theorem zt3 (a : EvB K G H₀ L ss ta (.int i)) (b : EvB K G H₀ L ss tb (.int j)) (h : CMul i j) : Ev K G H₀ L ss (tOp (rI CMul fun i j => .int (i * j)) ta tb) (.int (i * j)) := zp7 (C:=CMul) (g:=fun i j => i * j) a b h
theorem zgg (a : EvB K G H₀ L ss ta (.int i)) (b : EvB K G H₀ L ss tb (.int j)) (h : CDiv i j) : Ev K G H₀ L ss (tOp (rI CDiv fun i j => .int (i / j)) ta tb) (.int (i / j)) := zp7 (C:=CDiv) (g:=fun i j => i / j) a b h
theorem zws (a : EvB K G H₀ L ss ta (.int i)) (b : EvB K G H₀ L ss tb (.int j)) : Ev K G H₀ L ss (tOp (rI0 fun i j => .bl (decide (i < j))) ta tb) (.bl (decide (i < j))) := zo8 (g:=fun i j => decide (i < j)) a b
end
theorem zq8 (n d : Nat) {a : Int} (h : 0 <= a) : HT.sIx n d (some a) = min a.toNat n := by
 show (if a < 0 then (a + (n : Int)).toNat else min a.toNat n) = _
 rw [if_neg (by lia)]
theorem zpa (m : List D) {b : Int} (h : 0 <= b) : cutD m (some b) none = m.drop b.toNat := by
 unfold cutD
 rw [zq8 _ _ h, show HT.sIx m.length m.length none = m.length from rfl, List.take_of_length_le (by rw [List.length_drop]; lia)]
 by_cases hh : b.toNat <= m.length
 ·rw [Nat.min_eq_left hh]
 ·rw [Nat.min_eq_right (by lia), List.drop_length, List.drop_eq_nil_of_le (by lia)]
theorem ztf (m : List D) {a b : Int} (h : 0 <= a) (h2 : a <= b) : cutD m (some a) (some b) = (m.drop a.toNat).take (b.toNat - a.toNat) := by
 unfold cutD
 rw [zq8 _ _ h, zq8 _ _ (by lia)]
 by_cases h3 : a.toNat <= m.length
 ·rw [Nat.min_eq_left h3]
  by_cases h4 : b.toNat <= m.length
  ·rw [Nat.min_eq_left h4]
  ·rw [Nat.min_eq_right (by lia), List.take_of_length_le (by simp), List.take_of_length_le (by simp; lia)]
 ·rw [List.drop_eq_nil_of_le (as:=m) (i:=a.toNat) (by lia), List.drop_eq_nil_of_le (by omega)]; simp
end L2
namespace L2
open PySem PySem.W PySem.Spec PyProof.Rows
theorem zme {α β : Type} (xs : List α) (z : α) (p : α -> Bool) (f : α -> β) : ((List.range xs.length).filter fun i => p (xs.getD i z)).map (fun i => f (xs.getD i z)) = (xs.filter p).map f := by
 have e : xs = (List.range xs.length).map fun i => xs.getD i z := by
  refine List.ext_getElem? fun i => ?_
  rw [List.getElem?_map]
  by_cases hi : i < xs.length
  ·rw [List.getElem?_range hi, List.getElem?_eq_getElem hi]; simp [List.getD_eq_getElem?_getD, hi]
  ·rw [List.getElem?_eq_none (by lia), List.getElem?_eq_none (by simp; lia)]; rfl
 conv => rhs; rw [e]
 rw [List.filter_map, List.map_map]
 rfl
section
variable {K : PySem.W.Frag} {G H₀ L : Hp} {ss : List Sl}
theorem zuq {α : Type} (xs : List α) (enc : α -> D) (p : α -> Bool) (f : α -> D) {tl : TE} {g : TG} {tt : TT} {te : TE} {nt : Nat} {cs : List Nat} (a : EvL K G H₀ L ss tl (xs.map enc)) (hk : GK nt g) (hc : cs.Nodup) (hz : xs.length < sizeLine)
  (hs : ∀ x ∈ xs, ∃ ss', Tg K G H₀ L g (enc x) (lcSl nt cs ss) ss' /\ EvT K G H₀ L ss' tt (p x) /\ (p x = true -> Ev K G H₀ L ss' te (f x))) :
  EvO K G H₀ L ss (tLC nt cs (znk K tl) g tt te) ((xs.filter p).map f) := by
 cases xs with
 | nil =>
  have := ziw (p:=fun _ => true) (f:=fun _ => .non) (tt:=tt) (te:=te) (zi9 a) hk hc (by simpa using hz) (fun i hi => by simp at hi)
  simpa using this
 | cons z zs =>
  have hl : ((z :: zs).map enc).length = (z :: zs).length := by simp
  have := ziw (p:=fun i => p ((z :: zs).getD i z)) (f:=fun i => f ((z :: zs).getD i z)) (tt:=tt) (te:=te) (zi9 a) hk hc (by rw [hl]; exact hz) (fun i hi => by
   rw [hl] at hi
   have hm : (z :: zs).getD i z ∈ (z :: zs) := by
    rw [List.getD_eq_getElem?_getD, List.getElem?_eq_getElem hi]; exact List.getElem_mem hi
   have e : ((z :: zs).map enc).getD i .non = enc ((z :: zs).getD i z) := by
    rw [List.getD_eq_getElem?_getD, List.getElem?_map, List.getD_eq_getElem?_getD, List.getElem?_eq_getElem hi]; rfl
   rw [e]
   exact hs _ hm)
  rw [hl, zme] at this
  exact this
theorem zml : EvT K G H₀ L ss zg0 true := fun F H σ Q S q => q _ _ (Ext.refl S.ext.fh)
theorem zu2 {α : Type} (xs : List α) (enc : α -> D) (f : α -> D) {tl : TE} {g : TG} {te : TE} {nt : Nat} {cs : List Nat} (a : EvL K G H₀ L ss tl (xs.map enc)) (hk : GK nt g) (hc : cs.Nodup) (hz : xs.length < sizeLine)
  (hs : ∀ x ∈ xs, ∃ ss', Tg K G H₀ L g (enc x) (lcSl nt cs ss) ss' /\ Ev K G H₀ L ss' te (f x)) :
  EvO K G H₀ L ss (tLC nt cs (znk K tl) g zg0 te) (xs.map f) := by
 have := zuq xs enc (fun _ => true) f a hk hc hz (tt:=zg0) (te:=te) fun x hx => by
  obtain ⟨ss', h1, h2⟩ := hs x hx
  exact ⟨ss', h1, zml, fun _ => h2⟩
 rw [show xs.filter (fun _ => true) = xs from List.filter_eq_self.mpr (by simp)] at this
 exact this
theorem zq7 {α : Type} {xs : List α} {g : α -> Bool} {t : TE} (b : EvL K G H₀ L ss t (xs.map fun x => D.bl (g x))) : Ev K G H₀ L ss (tCB (rAll K) (zbe t tNil)) (.bl (xs.all g)) := by
 have := zwu (K:=K) (G:=G) (H₀:=H₀) (L:=L) (ss:=ss) (t:=t) (bs:=xs.map g) (by rw [List.map_map]; exact b)
 rw [List.all_map] at this
 exact this
end
end L2
set_option maxHeartbeats 4000000
namespace L2T
open PySem
theorem zir (xs : Array Nat) (hp : xs.toList.Pairwise (· < ·)) (i k x y : Nat) (hik : i < k) (hx : xs[i]? = some x) (hy : xs[k]? = some y) : x < y := by
 rw [<- Array.getElem?_toList] at hx hy
 obtain ⟨hi', hx'⟩ := List.getElem?_eq_some_iff.mp hx
 obtain ⟨hk', hy'⟩ := List.getElem?_eq_some_iff.mp hy
 have h := List.pairwise_iff_getElem.mp hp i k hi' hk' hik
 rw [hx', hy'] at h; exact h
theorem zsp (xs : Array Nat) (j : Nat) (hp : xs.toList.Pairwise (· < ·)) : ∀ (fuel lo hi : Nat), hi - lo <= fuel -> lo <= hi -> hi <= xs.size ->
  (∀ i x, i < lo -> xs[i]? = some x -> x < j) -> (∀ i x, hi <= i -> xs[i]? = some x -> j <= x) ->
  (SetTable.below.go xs j fuel lo hi <= xs.size) /\ (∀ i x, i < SetTable.below.go xs j fuel lo hi -> xs[i]? = some x -> x < j) /\ (∀ i x, SetTable.below.go xs j fuel lo hi <= i -> xs[i]? = some x -> j <= x) := by
 intro fuel
 induction fuel with
 | zero =>
  intro lo hi hf hl hs h1 h2
  have : lo = hi := by lia
  subst this
  exact ⟨hs, h1, h2⟩
 | succ fuel ih =>
  intro lo hi hf hl hs h1 h2
  unfold SetTable.below.go
  by_cases hlt : lo < hi
  ·rw [if_pos hlt]
   have hm : (lo + hi) / 2 < xs.size := by lia
   have hgm : xs[(lo + hi) / 2]? = some xs[(lo + hi) / 2] := Array.getElem?_eq_getElem hm
   have hgd : xs.getD ((lo + hi) / 2) j = xs[(lo + hi) / 2] := by simp [Array.getD, hm]
   have hmono := zir xs hp
   dsimp only
   rw [hgd]
   by_cases hc : xs[(lo + hi) / 2] < j
   ·rw [if_pos hc]
    refine ih _ _ (by omega) (by lia) hs ?_ h2
    intro i x hi' hx
    by_cases he : i = (lo + hi) / 2
    ·subst he; rw [hgm] at hx; cases hx; exact hc
    ·have := hmono i ((lo + hi) / 2) x _ (by lia) hx hgm; lia
   ·rw [if_neg hc]
    refine ih _ _ (by omega) (by lia) (by lia) h1 ?_
    intro i x hi' hx
    by_cases he : i = (lo + hi) / 2
    ·subst he; rw [hgm] at hx; cases hx; lia
    ·have := hmono ((lo + hi) / 2) i _ x (by lia) hgm hx; lia
  ·rw [if_neg hlt]
   have : lo = hi := by lia
   subst this
   exact ⟨hs, h1, h2⟩
theorem zd0 (xs : Array Nat) (j : Nat) (hp : xs.toList.Pairwise (· < ·)) :
  SetTable.below xs j <= xs.size /\ (∀ i x, i < SetTable.below xs j -> xs[i]? = some x -> x < j) /\ (∀ i x, SetTable.below xs j <= i -> xs[i]? = some x -> j <= x) := by
 unfold SetTable.below
 exact zsp xs j hp xs.size 0 xs.size (by lia) (by lia) (by lia) (fun i x h => by lia) (fun i x h hx => by
  have := (Array.getElem?_eq_some_iff.mp hx).1; lia)
theorem zc1 (xs : Array Nat) (j : Nat) (hp : xs.toList.Pairwise (· < ·)) : xs[SetTable.below xs j]? = some j ↔ j ∈ xs.toList := by
 obtain ⟨h0, h1, h2⟩ := zd0 xs j hp
 constructor
 ·intro h; rw [<- Array.getElem?_toList] at h; exact List.mem_of_getElem? h
 ·intro h
  obtain ⟨i, hi⟩ := List.mem_iff_getElem?.mp h
  rw [Array.getElem?_toList] at hi
  rcases Nat.lt_or_ge i (SetTable.below xs j) with hc | hc
  ·have := h1 i j hc hi; lia
  ·have hib := (Array.getElem?_eq_some_iff.mp hi).1
   have hb : SetTable.below xs j < xs.size := by lia
   have hg : xs[SetTable.below xs j]? = some xs[SetTable.below xs j] := Array.getElem?_eq_getElem hb
   have h3 := h2 _ _ (Nat.le_refl _) hg
   rcases Nat.lt_or_ge (SetTable.below xs j) i with hd | hd
   ·have := zir xs hp _ _ _ _ hd hg hi
    lia
   ·have : i = SetTable.below xs j := by lia
    rw [<- this]; exact hi
theorem zgs (xs : Array Nat) (j : Nat) (hp : xs.toList.Pairwise (· < ·)) : SetTable.has xs j = true ↔ j ∈ xs.toList := by
 unfold SetTable.has
 rw [beq_iff_eq]
 exact zc1 xs j hp
theorem zsi (xs : Array Nat) (i j : Nat) (hp : xs.toList.Pairwise (· < ·)) (h : xs[i]? = some j) : SetTable.below xs j = i := by
 have hm := (zc1 xs j hp).mpr (by rw [<- Array.getElem?_toList] at h; exact List.mem_of_getElem? h)
 rw [<- Array.getElem?_toList] at h hm
 obtain ⟨hi, hx⟩ := List.getElem?_eq_some_iff.mp h
 obtain ⟨hk, hy⟩ := List.getElem?_eq_some_iff.mp hm
 rcases Nat.lt_trichotomy (SetTable.below xs j) i with hc | hc | hc
 ·have := List.pairwise_iff_getElem.mp hp _ _ hk hi hc; lia
 ·exact hc
 ·have := List.pairwise_iff_getElem.mp hp _ _ hi hk hc; lia
theorem za9 {α : Type} (xs : Array α) (p : Nat) (x : α) (hp : p <= xs.size) : (SetTable.insertAt xs p x).toList = xs.toList.take p ++ x :: xs.toList.drop p := by
 simp [SetTable.insertAt, Array.toList_extract, List.extract, List.take_of_length_le]
theorem zcr {α : Type} (xs : Array α) (p : Nat) : (SetTable.eraseAt xs p).toList = xs.toList.take p ++ xs.toList.drop (p + 1) := by
 simp [SetTable.eraseAt, Array.toList_extract, List.extract, List.take_of_length_le]
theorem zg5 (xs : Array Nat) (j : Nat) (hp : xs.toList.Pairwise (· < ·)) (hj : j ∉ xs.toList) :
  (SetTable.insertAt xs (SetTable.below xs j) j).toList.Pairwise (· < ·) := by
 obtain ⟨h0, h1, h2⟩ := zd0 xs j hp
 rw [za9 _ _ _ h0, List.pairwise_append, List.pairwise_cons]
 have ht : ∀ x ∈ xs.toList.take (SetTable.below xs j), x < j := by
  intro x hx
  obtain ⟨i, hi⟩ := List.mem_iff_getElem?.mp hx
  rw [List.getElem?_take] at hi
  split at hi
  ·rename_i hlt; exact h1 i x hlt (by rw [<- Array.getElem?_toList]; exact hi)
  ·cases hi
 have hd : ∀ x ∈ xs.toList.drop (SetTable.below xs j), j < x := by
  intro x hx
  obtain ⟨i, hi⟩ := List.mem_iff_getElem?.mp hx
  rw [List.getElem?_drop] at hi
  have := h2 _ x (Nat.le_add_right _ i) (by rw [<- Array.getElem?_toList]; exact hi)
  have hne : x ≠ j := fun e => hj (e ▸ List.mem_of_getElem? hi)
  lia
 refine ⟨hp.sublist (List.take_sublist _ _), ⟨hd, hp.sublist (List.drop_sublist _ _)⟩, ?_⟩
 intro x hx y hy
 rcases List.mem_cons.mp hy with rfl | hy
 ·exact ht x hx
 ·have := ht x hx; have := hd y hy; lia
structure TOk (t : SetTable) : Prop where
 pl : t.place.toList.Pairwise (· < ·)
 du : t.dummies.toList.Pairwise (· < ·)
 ple : ∀ j ∈ t.place.toList, j <= t.mask
 dle : ∀ j ∈ t.dummies.toList, j <= t.mask
 dis : ∀ j ∈ t.dummies.toList, j ∉ t.place.toList
 pow : ∃ k, t.mask + 1 = 2 ^ (k + 3)
 big : t.mask <= 8191
theorem zdo {t : SetTable} (h : TOk t) (j i : Nat) : t.slot j = .live i ↔ t.place[i]? = some j := by
 unfold SetTable.slot
 dsimp only
 by_cases hc : t.place[SetTable.below t.place j]? = some j
 ·rw [if_pos (by rw [beq_iff_eq]; exact hc)]
  constructor
  ·intro he; cases he; exact hc
  ·intro hi; rw [zsi _ _ _ h.pl hi]
 ·rw [if_neg (by rw [beq_iff_eq]; exact hc)]
  constructor
  ·intro he; split at he <;> cases he
  ·intro hi; exact absurd ((zc1 _ _ h.pl).mpr (by rw [<- Array.getElem?_toList] at hi; exact List.mem_of_getElem? hi)) hc
theorem zdx {t : SetTable} (h : TOk t) (j : Nat) : t.slot j = .dummy ↔ j ∈ t.dummies.toList := by
 unfold SetTable.slot
 dsimp only
 by_cases hc : t.place[SetTable.below t.place j]? = some j
 ·rw [if_pos (by rw [beq_iff_eq]; exact hc)]
  constructor
  ·intro he; cases he
  ·intro hi; exact absurd ((zc1 _ _ h.pl).mp hc) (h.dis j hi)
 ·rw [if_neg (by rw [beq_iff_eq]; exact hc)]
  by_cases hd : SetTable.has t.dummies j = true
  ·rw [if_pos hd]; exact ⟨fun _ => (zgs _ _ h.du).mp hd, fun _ => rfl⟩
  ·rw [if_neg hd]; exact ⟨fun he => (by cases he), fun he => absurd ((zgs _ _ h.du).mpr he) hd⟩
theorem zc3 {t : SetTable} (h : TOk t) (j : Nat) : t.slot j = .empty ↔ (j ∉ t.place.toList /\ j ∉ t.dummies.toList) := by
 constructor
 ·intro he
  refine ⟨fun hm => ?_, fun hm => ?_⟩
  ·obtain ⟨i, hi⟩ := List.mem_iff_getElem?.mp hm
   rw [Array.getElem?_toList] at hi
   rw [(zdo h j i).mpr hi] at he; cases he
  ·rw [(zdx h j).mpr hm] at he; cases he
 ·rintro ⟨h1, h2⟩
  cases hs : t.slot j with
  | empty => rfl
  | dummy => exact absurd ((zdx h j).mp hs) h2
  | live i =>
   have := (zdo h j i).mp hs
   rw [<- Array.getElem?_toList] at this
   exact absurd (List.mem_of_getElem? this) h1
theorem zn9 : ∀ (n : Nat) (L : List Nat), (∀ x, x < n -> x ∈ L) -> n <= L.length := by
 intro n
 induction n with
 | zero => intro L _; exact Nat.zero_le _
 | succ n ih =>
  intro L h
  have hn : n ∈ L := h n (by lia)
  have h1 := ih (L.erase n) (fun x hx => (List.mem_erase_of_ne (by lia)).mpr (h x (by lia)))
  have h2 := List.length_erase_of_mem hn
  have h3 : 0 < L.length := List.length_pos_of_mem hn
  lia
theorem zhh {t : SetTable} (h : TOk t) (hr : t.fill <= t.mask) : ∃ e, e <= t.mask /\ t.slot e = .empty := by
 refine Classical.byContradiction fun hc => ?_
 have hall : ∀ x, x < t.mask + 1 -> x ∈ t.place.toList ++ t.dummies.toList := by
  intro x hx
  refine Classical.byContradiction fun hn => hc ⟨x, by lia, (zc3 h x).mpr ?_⟩
  rw [List.mem_append] at hn
  exact ⟨fun a => hn (.inl a), fun a => hn (.inr a)⟩
 have := zn9 _ _ hall
 simp only [SetTable.fill, List.length_append, Array.length_toList] at this hr
 lia
noncomputable def lcg : Nat -> Nat -> Nat
 | 0, x => x
 | n + 1, x => lcg n (5 * x + 1)
theorem zl3 (m n x : Nat) : lcg (m + n) x = lcg n (lcg m x) := by
 induction m generalizing x with
 | zero => simp [lcg]
 | succ m ih => rw [Nat.succ_add]; exact ih _
theorem zu7 : ∀ k, ∃ u v, ∀ x, lcg (2 ^ k) x = (1 + 2 ^ (k + 2) * u) * x + 2 ^ k * (2 * v + 1) := by
 intro k
 induction k with
 | zero => exact ⟨1, 0, fun x => by simp [lcg]⟩
 | succ k ih =>
  obtain ⟨u, v, h⟩ := ih
  refine ⟨u + 2 ^ (k + 1) * u * u, v + 2 ^ k * u * (2 * v + 1), fun x => ?_⟩
  have e : 2 ^ (k + 1) = 2 ^ k + 2 ^ k := by lia
  conv => lhs; rw [e]
  rw [zl3, h, h]
  have e1 : 2 ^ (k + 2) = 4 * 2 ^ k := by rw [Nat.pow_succ, Nat.pow_succ]; lia
  have e2 : 2 ^ (k + 1 + 2) = 8 * 2 ^ k := by rw [Nat.pow_succ, Nat.pow_succ, Nat.pow_succ]; lia
  rw [e1, e2, e]
  generalize 2 ^ k = a
  grind
theorem zvh : ∀ k x e, ∃ s, s < 2 ^ k /\ lcg s x % 2 ^ k = e % 2 ^ k := by
 intro k
 induction k with
 | zero => intro x e; exact ⟨0, by simp, by simp [Nat.mod_one]⟩
 | succ k ih =>
  intro x e
  obtain ⟨s, hs, he⟩ := ih x e
  have e2 : 2 ^ (k + 1) = 2 * 2 ^ k := by lia
  have hpos : 0 < 2 ^ k := Nat.two_pow_pos k
  by_cases hc : lcg s x % 2 ^ (k + 1) = e % 2 ^ (k + 1)
  ·exact ⟨s, by lia, hc⟩
  ·refine ⟨s + 2 ^ k, by lia, ?_⟩
   rw [zl3]
   obtain ⟨u, v, h⟩ := zu7 k
   rw [h]
   generalize lcg s x = y at *
   have h3 : (1 + 2 ^ (k + 2) * u) * y + 2 ^ k * (2 * v + 1) = y + 2 ^ k + 2 ^ (k + 1) * (2 * u * y + v) := by
    have e1 : 2 ^ (k + 2) = 4 * 2 ^ k := by rw [Nat.pow_succ, Nat.pow_succ]; lia
    rw [e1, e2]; generalize 2 ^ k = a; grind
   rw [h3, Nat.add_mul_mod_self_left, e2]
   rw [e2] at hc
   generalize ha : 2 ^ k = a at *
   -- y ≡ e mod a, not mod 2a
   have hy := Nat.mod_add_div y a
   have hE := Nat.mod_add_div e a
   rw [he] at hy
   generalize y / a = p at *
   generalize e / a = q at *
   generalize hr : e % a = r at *
   have hra : r < a := by rw [<- hr]; exact Nat.mod_lt _ hpos
   subst hy
   have h5 : ∀ z, (r + a * z) % (2 * a) = if z % 2 = 0 then r else r + a := by
    intro z
    have hz := Nat.mod_add_div z 2
    have h6 : r + a * z = r + a * (z % 2) + (2 * a) * (z / 2) := by
     conv => lhs; rw [<- hz]
     generalize z % 2 = z1; generalize z / 2 = z2; grind
    rw [h6, Nat.add_mul_mod_self_left]
    rcases Nat.mod_two_eq_zero_or_one z with h7 | h7
    ·rw [h7, if_pos rfl]; simp; exact Nat.mod_eq_of_lt (by lia)
    ·rw [h7, if_neg (by lia)]; simp; exact Nat.mod_eq_of_lt (by lia)
   have h7 : r + a * p + a = r + a * (p + 1) := by grind
   rw [<- hE] at hc ⊢
   rw [h7, h5, h5]
   rw [h5, h5] at hc
   by_cases hp2 : p % 2 = 0 <;> by_cases hq2 : q % 2 = 0 <;> simp only [hp2, hq2, if_true, if_false] at hc <;>
    (have : (p + 1) % 2 = 0 \/ (p + 1) % 2 = 1 := Nat.mod_two_eq_zero_or_one _) <;> grind
end L2T
namespace L2T
open PySem SetTable
noncomputable def advM (mask : Nat) (p : Probe) : Probe :=
 if p.more > 0 then { p with j := p.j + 1, more := p.more - 1 } else
 let (i, perturb) := leap mask p.i p.perturb
 { p with j := i, more := runEnd mask i - i, i, perturb }
theorem zcj (t : SetTable) (p : Probe) : t.advance p = advM t.mask p := rfl
noncomputable def stM (mask i perturb : Nat) : Probe := { j := i, more := runEnd mask i - i, i, perturb, dummy := none }
noncomputable def prM (mask : Nat) (h : Int) : Nat -> Probe
 | 0 => stM mask (bits h % (mask + 1)) (bits h)
 | n + 1 => advM mask (prM mask h n)
noncomputable def posM (mask : Nat) (h : Int) (n : Nat) : Nat := (prM mask h n).j
noncomputable def lpM (mask : Nat) (h : Int) : Nat -> Nat × Nat
 | 0 => (bits h % (mask + 1), bits h)
 | m + 1 => leap mask (lpM mask h m).1 (lpM mask h m).2
noncomputable def lpS (mask : Nat) (h : Int) (m : Nat) : Probe := stM mask (lpM mask h m).1 (lpM mask h m).2
theorem zvw (mask : Nat) : ∀ (r : Nat) (p : Probe) (F : Nat -> Probe), (∀ n, F (n + 1) = advM mask (F n)) -> F 0 = p -> r <= p.more -> F r = { p with j := p.j + r, more := p.more - r } := by
 intro r
 induction r with
 | zero => intro p F hF h0 hr; rw [h0]; rfl
 | succ r ih =>
  intro p F hF h0 hr
  rw [hF, ih p F hF h0 (by lia)]
  unfold advM
  rw [if_pos (by show p.more - r > 0; lia)]
  show ({ p with j := p.j + r + 1, more := p.more - r - 1 } : Probe) = _
  congr 1
theorem zqy (mask i : Nat) : runEnd mask i - i <= 9 := by unfold runEnd; split <;> lia
theorem zq0 (mask : Nat) (h : Int) (n m : Nat) (hs : prM mask h n = lpS mask h m) :
  prM mask h (n + (runEnd mask (lpM mask h m).1 - (lpM mask h m).1) + 1) = lpS mask h (m + 1) /\
  ∀ r, r <= runEnd mask (lpM mask h m).1 - (lpM mask h m).1 -> posM mask h (n + r) = (lpM mask h m).1 + r := by
 have hrun := fun r hr => zvw mask r (lpS mask h m) (fun k => prM mask h (n + k)) (fun k => rfl) hs hr
 refine ⟨?_, fun r hr => ?_⟩
 ·show advM mask (prM mask h (n + (runEnd mask (lpM mask h m).1 - (lpM mask h m).1))) = _
  rw [hrun (runEnd mask (lpM mask h m).1 - (lpM mask h m).1) (Nat.le_refl _)]
  unfold advM
  rw [if_neg (by show ¬ (lpS mask h m).more - (runEnd mask (lpM mask h m).1 - (lpM mask h m).1) > 0; show ¬ (runEnd mask (lpM mask h m).1 - (lpM mask h m).1) - (runEnd mask (lpM mask h m).1 - (lpM mask h m).1) > 0; lia)]
  rfl
 ·unfold posM
  rw [hrun r hr]; rfl
theorem zwi (mask : Nat) (h : Int) : ∀ m, ∃ n, n <= 10 * m /\ prM mask h n = lpS mask h m := by
 intro m
 induction m with
 | zero => exact ⟨0, by lia, rfl⟩
 | succ m ih =>
  obtain ⟨n, hn, he⟩ := ih
  have := zqy mask (lpM mask h m).1
  exact ⟨_, by lia, (zq0 mask h n m he).1⟩
theorem zup (h : Int) : bits h < 2 ^ 64 := by
 unfold bits
 have : h % (2 ^ 64 : Int) < 2 ^ 64 := Int.emod_lt_of_pos _ (by decide)
 lia
theorem zyc (mask : Nat) (h : Int) : ∀ m, (lpM mask h m).2 = bits h / 32 ^ m := by
 intro m
 induction m with
 | zero => simp [lpM]
 | succ m ih => show (lpM mask h m).2 / 32 = _; rw [ih, Nat.div_div_eq_div_mul, Nat.pow_succ]
theorem zwh (mask : Nat) (h : Int) (m : Nat) (hm : 13 <= m) : (lpM mask h m).2 = 0 := by
 rw [zyc]
 have h1 := zup h
 have h2 : 32 ^ 13 <= 32 ^ m := Nat.pow_le_pow_right (by decide) hm
 exact Nat.div_eq_of_lt (by have : (32 : Nat) ^ 13 = 2 ^ 65 := (by decide); lia)
theorem zyi (mask : Nat) (h : Int) (m : Nat) : (lpM mask h m).1 < mask + 1 := by
 cases m with
 | zero => exact Nat.mod_lt _ (by lia)
 | succ m => exact Nat.mod_lt _ (by lia)
theorem zxt (mask : Nat) (h : Int) : ∀ s, (lpM mask h (13 + s)).1 = lcg s (lpM mask h 13).1 % (mask + 1) := by
 intro s
 induction s with
 | zero => exact (Nat.mod_eq_of_lt (zyi mask h 13)).symm
 | succ s ih =>
  show ((lpM mask h (13 + s)).1 * 5 + 1 + (lpM mask h (13 + s)).2 / 32) % (mask + 1) = _
  rw [zwh mask h (13 + s) (by lia), ih, zl3]
  show _ = (5 * lcg s (lpM mask h 13).1 + 1) % (mask + 1)
  generalize lcg s (lpM mask h 13).1 = y
  simp [Nat.add_mod, Nat.mul_mod, Nat.mul_comm]
theorem zt5 (mask k : Nat) (hk : mask + 1 = 2 ^ k) (h : Int) (e : Nat) (he : e <= mask) : ∃ m, m <= 13 + mask /\ (lpM mask h m).1 = e := by
 obtain ⟨s, hs, hl⟩ := zvh k (lpM mask h 13).1 e
 refine ⟨13 + s, by lia, ?_⟩
 rw [zxt, hk, hl, <- hk]
 exact Nat.mod_eq_of_lt (by lia)
theorem zql (mask k : Nat) (hk : mask + 1 = 2 ^ k) (h : Int) (e : Nat) (he : e <= mask) : ∃ n, n < 10 * turns mask /\ posM mask h n = e := by
 obtain ⟨m, hm, hl⟩ := zt5 mask k hk h e he
 obtain ⟨n, hn, hp⟩ := zwi mask h m
 refine ⟨n, by unfold turns; lia, ?_⟩
 unfold posM; rw [hp]; exact hl
noncomputable def zk2 (p q : Probe) : Prop := p.j = q.j /\ p.more = q.more /\ p.i = q.i /\ p.perturb = q.perturb
theorem zi5 (mask : Nat) {p q : Probe} (h : zk2 p q) : zk2 (advM mask p) (advM mask q) := by
 obtain ⟨h1, h2, h3, h4⟩ := h
 unfold advM
 rw [h2, h3, h4, h1]
 split
 ·exact ⟨rfl, rfl, rfl, rfl⟩
 ·exact ⟨rfl, rfl, rfl, rfl⟩
theorem zgo (mask : Nat) (p : Probe) : (advM mask p).dummy = p.dummy := by
 unfold advM; split <;> rfl
theorem zmj (t : SetTable) (hashAt : Nat -> Int) (h : Int) : ∀ (fuel : Nat) (p : Probe) (n : Nat), zk2 p (prM t.mask h n) ->
    (∃ N, n <= N /\ N < n + fuel /\ t.slot (posM t.mask h N) = .empty) ->
    ∃ m, n <= m /\ (∀ q, n <= q -> q < m -> t.slot (posM t.mask h q) ≠ .empty /\ ∀ i, t.slot (posM t.mask h q) = .live i -> hashAt i ≠ h) /\
      ∃ d, (d = p.dummy \/ ∃ q, n <= q /\ q < m /\ d = some (posM t.mask h q) /\ t.slot (posM t.mask h q) = .dummy) /\
      ((t.slot (posM t.mask h m) = .empty /\ probe.go t hashAt h fuel p = some (.empty (posM t.mask h m) d)) \/
       (∃ i nx, t.slot (posM t.mask h m) = .live i /\ hashAt i = h /\ probe.go t hashAt h fuel p = some (.candidate (posM t.mask h m) i nx) /\ zk2 nx (prM t.mask h (m + 1)) /\ nx.dummy = d)) := by
  intro fuel
  induction fuel with
  | zero => rintro p n hs ⟨N, h1, h2, _⟩; omega
  | succ fuel ih =>
    rintro p n hs ⟨N, h1, h2, h3⟩
    have hj : p.j = posM t.mask h n := hs.1
    unfold probe.go
    rw [hj]
    cases hsl : t.slot (posM t.mask h n) with
    | empty =>
      exact ⟨n, Nat.le_refl _, fun q a b => by lia, p.dummy, .inl rfl, .inl ⟨hsl, rfl⟩⟩
    | dummy =>
      have hN : N ≠ n := fun e => by subst e; rw [hsl] at h3; cases h3
      have hs' : zk2 (t.advance { p with dummy := some (posM t.mask h n) }) (prM t.mask h (n + 1)) := by
        rw [zcj]; exact zi5 _ (p:={ p with dummy := some (posM t.mask h n) }) ⟨hs.1, hs.2.1, hs.2.2.1, hs.2.2.2⟩
      obtain ⟨m, hm, hq, d, hd, hr⟩ := ih _ (n + 1) hs' ⟨N, by lia, by lia, h3⟩
      refine ⟨m, by lia, ?_, d, ?_, ?_⟩
      · intro q a b
        rcases Nat.eq_or_lt_of_le a with e | e
        · subst e; exact ⟨(by rw [hsl]; exact fun x => (by cases x)), fun i hi => by rw [hsl] at hi; cases hi⟩
        · exact hq q e b
      · rcases hd with hd | ⟨q, a, b, c, e⟩
        · refine .inr ⟨n, Nat.le_refl _, by lia, ?_, hsl⟩
          rw [hd, zcj, zgo]
        · exact .inr ⟨q, by lia, b, c, e⟩
      · rw [hj] at hr; exact hr
    | live i =>
      dsimp only
      by_cases hh : hashAt i = h
      · refine ⟨n, Nat.le_refl _, fun q a b => by lia, p.dummy, .inl rfl, .inr ⟨i, t.advance p, hsl, hh, ?_, ?_, ?_⟩⟩
        · rw [if_pos (by rw [hh]; exact beq_self_eq_true h)]
        · rw [zcj]; exact zi5 _ hs
        · rw [zcj, zgo]
      · have hN : N ≠ n := fun e => by subst e; rw [hsl] at h3; cases h3
        obtain ⟨m, hm, hq, d, hd, hr⟩ := ih (t.advance p) (n + 1) (by rw [zcj]; exact zi5 _ hs) ⟨N, by lia, by lia, h3⟩
        refine ⟨m, by lia, ?_, d, ?_, ?_⟩
        · intro q a b
          rcases Nat.eq_or_lt_of_le a with e | e
          · subst e; exact ⟨(by rw [hsl]; exact fun x => (by cases x)), fun i' hi => by rw [hsl] at hi; cases hi; exact hh⟩
          · exact hq q e b
        · rcases hd with hd | ⟨q, a, b, c, e⟩
          · exact .inl (by rw [hd, zcj, zgo])
          · exact .inr ⟨q, by lia, b, c, e⟩
        · rw [if_neg (by rw [beq_iff_eq]; exact hh)]; exact hr
noncomputable def zie (t : SetTable) (h : Int) (j : Nat) : Prop := ∃ n, posM t.mask h n = j /\ ∀ m, m < n -> t.slot (posM t.mask h m) ≠ .empty
theorem zhu (mask k : Nat) (hk : mask + 1 = 2 ^ k) (h : Int) : ∀ n, posM mask h n <= mask := by
 have key : ∀ n, (prM mask h n).j + (prM mask h n).more <= mask := by
  intro n
  have hst : ∀ i p, i < mask + 1 -> (stM mask i p).j + (stM mask i p).more <= mask := by
   intro i p hi; show i + (runEnd mask i - i) <= mask; unfold runEnd; split <;> lia
  induction n with
  | zero => exact hst _ _ (Nat.mod_lt _ (by lia))
  | succ n ih =>
   show (advM mask (prM mask h n)).j + (advM mask (prM mask h n)).more <= mask
   unfold advM
   split
   ·show (prM mask h n).j + 1 + ((prM mask h n).more - 1) <= mask; lia
   ·exact hst _ (leap mask (prM mask h n).i (prM mask h n).perturb).2 (Nat.mod_lt _ (by lia))
 intro n
 have := key n
 unfold posM; lia
end L2T
namespace L2T
open PySem SetTable
structure SOk {α : Type} (t : SetTable) (es : List (Int × α)) : Prop where
 ok : TOk t
 room : t.fill * 5 < t.mask * 3
 size : t.place.size = es.length
 reach : ∀ c ∈ t.place.toList.zip es, zie t c.2.1 c.1
theorem zoz (mask : Nat) (owner : Array (Option Nat)) (h : Int) : ∀ (fuel m n : Nat), prM mask h n = lpS mask h m ->
  (∀ q, q < n -> owner.getD (posM mask h q) (some 0) ≠ none) -> (∃ M, m <= M /\ M < m + fuel /\ owner.getD (lpM mask h M).1 (some 0) = none) ->
  ∃ j n', layClean.free mask owner fuel (lpM mask h m).1 (lpM mask h m).2 = some j /\ posM mask h n' = j /\ owner.getD j (some 0) = none /\ ∀ q, q < n' -> owner.getD (posM mask h q) (some 0) ≠ none := by
 intro fuel
 induction fuel with
 | zero => rintro m n hs hq ⟨M, a, b, c⟩; omega
 | succ fuel ih =>
  rintro m n hs hq ⟨M, a, b, c⟩
  obtain ⟨hnx, hrun⟩ := zq0 mask h n m hs
  unfold layClean.free
  cases hf : (List.range (runEnd mask (lpM mask h m).1 + 1 - (lpM mask h m).1)).find? (fun k => (owner.getD ((lpM mask h m).1 + k) (some 0)).isNone) with
  | some k =>
   obtain ⟨h1, h2, h3⟩ := List.find?_range_eq_some.mp hf
   rw [List.mem_range] at h2
   dsimp only
   refine ⟨_, n + k, rfl, hrun k (by lia), by simpa using h1, ?_⟩
   intro q hqq
   rcases Nat.lt_or_ge q n with hl | hl
   ·exact hq q hl
   ·have := h3 (q - n) (by lia)
    have e := hrun (q - n) (by omega)
    rw [show n + (q - n) = q by lia] at e
    rw [e]
    intro hc; rw [hc] at this; simp at this
  | none =>
   rw [List.find?_eq_none] at hf
   have hocc : ∀ k, k <= runEnd mask (lpM mask h m).1 - (lpM mask h m).1 -> owner.getD ((lpM mask h m).1 + k) (some 0) ≠ none := by
    intro k hk hc
    have hle : (lpM mask h m).1 <= runEnd mask (lpM mask h m).1 := by unfold runEnd; split <;> lia
    exact hf k (List.mem_range.mpr (by lia)) (by rw [hc]; rfl)
   have hM : M ≠ m := fun e => by subst e; exact hocc 0 (Nat.zero_le _) c
   dsimp only
   refine ih (m + 1) _ hnx ?_ ⟨M, by lia, by lia, c⟩
   intro q hqq
   rcases Nat.lt_or_ge q n with hl | hl
   ·exact hq q hl
   ·have e := hrun (q - n) (by lia)
    rw [show n + (q - n) = q by lia] at e
    rw [e]
    exact hocc _ (by lia)
theorem zm9 {α β : Type} {f g : α -> Option β} : ∀ l : List α, (∀ x ∈ l, f x = g x) -> l.filterMap f = l.filterMap g := by
 intro l
 induction l with
 | nil => intro _; rfl
 | cons x l ih => intro h; simp only [List.filterMap_cons, h x (.head _), ih (fun y hy => h y (.tail _ hy))]
theorem zr9 {α : Type} : ∀ l : List α, (List.range l.length).filterMap (fun i => l[i]?) = l := by
 intro l
 induction l with
 | nil => rfl
 | cons x l ih =>
  rw [List.length_cons, List.range_succ_eq_map, List.filterMap_cons_some (b:=x) (by rfl), List.filterMap_map]
  congr 1
noncomputable def zdb (mask : Nat) (owner : Array (Option Nat)) : List (Nat × Nat) := (List.range (mask + 1)).filterMap fun j => (owner.getD j none).map (j, ·)
theorem zya {α β : Type} [DecidableEq α] (f f' : α -> Option β) (x : α) (v : β) (h0 : f x = none) (h1 : f' x = some v) (h2 : ∀ y, y ≠ x -> f' y = f y) :
  ∀ l : List α, l.Nodup -> x ∈ l -> (l.filterMap f').Perm (v :: l.filterMap f) := by
 intro l
 induction l with
 | nil => intro _ h; cases h
 | cons y l ih =>
  intro hn hx
  rw [List.nodup_cons] at hn
  by_cases he : y = x
  ·subst he
   rw [List.filterMap_cons_some h1, List.filterMap_cons_none h0]
   have : l.filterMap f' = l.filterMap f := by
    refine zm9 _ fun z hz => h2 z (fun e => hn.1 (e ▸ hz))
   rw [this]
  ·have hx' : x ∈ l := by rcases List.mem_cons.mp hx with e | e; exact absurd e.symm he; exact e
   have hi := ih hn.2 hx'
   cases hf : f y with
   | none => rw [List.filterMap_cons_none (by rw [h2 y he]; exact hf), List.filterMap_cons_none hf]; exact hi
   | some b =>
    rw [List.filterMap_cons_some (by rw [h2 y he]; exact hf), List.filterMap_cons_some hf]
    exact (hi.cons b).trans (List.Perm.swap _ _ _)
theorem zxr {α β : Type} (f : α -> Option β) : ∀ l : List α, (∀ x ∈ l, f x ≠ none) -> (l.filterMap f).length = l.length := by
 intro l
 induction l with
 | nil => intro _; rfl
 | cons x l ih =>
  intro h
  cases hf : f x with
  | none => exact absurd hf (h x (.head _))
  | some b => rw [List.filterMap_cons_some hf, List.length_cons, List.length_cons, ih (fun y hy => h y (.tail _ hy))]
structure LInv (mask : Nat) (hs : List Int) (owner : Array (Option Nat)) : Prop where
 size : owner.size = mask + 1
 perm : ((zdb mask owner).map (·.2)).Perm (List.range hs.length)
 reach : ∀ j i, owner.getD j none = some i -> ∃ h, hs[i]? = some h /\ ∃ n, posM mask h n = j /\ ∀ q, q < n -> owner.getD (posM mask h q) (some 0) ≠ none
theorem zfz (owner : Array (Option Nat)) (j k x : Nat) (d : Option Nat) (hj : j < owner.size) : (owner.setIfInBounds j (some k)).getD x d = if x = j then some k else owner.getD x d := by
 simp only [Array.getD_eq_getD_getElem?, Array.getElem?_setIfInBounds]
 by_cases h : x = j
 ·subst h; simp [hj]
 ·rw [if_neg (fun e => h e.symm), if_neg h]
theorem zi8 (owner : Array (Option Nat)) (j : Nat) (hj : j < owner.size) : owner.getD j (some 0) = owner.getD j none := by
 simp [Array.getD, hj]
theorem zsd (mask k : Nat) (hk : mask + 1 = 2 ^ k) (hs : List Int) (owner : Array (Option Nat)) (h : Int) (inv : LInv mask hs owner) (hroom : hs.length < mask + 1) :
  ∃ j, layClean.free mask owner (turns mask) (bits h % (mask + 1)) (bits h) = some j /\ LInv mask (hs ++ [h]) (owner.setIfInBounds j (some hs.length)) := by
 have hex : ∃ e, e <= mask /\ owner.getD e none = none := by
  refine Classical.byContradiction fun hc => ?_
  have hl := zxr (fun j => (owner.getD j none).map (fun i => (j, i))) (List.range (mask + 1)) (fun x hx hn => hc ⟨x, by have := List.mem_range.mp hx; lia, by simpa using hn⟩)
  have hp := inv.perm.length_eq
  rw [List.length_map] at hp
  unfold zdb at hp
  rw [hl] at hp
  simp at hp; lia
 obtain ⟨e, he, hn⟩ := hex
 obtain ⟨M, hM, hMe⟩ := zt5 mask k hk h e he
 obtain ⟨j, n', hf, hp, hj, hq⟩ := zoz mask owner h (turns mask) 0 0 rfl (fun q hq => by lia)
  ⟨M, by lia, by unfold turns; lia, by rw [hMe, zi8 _ _ (by rw [inv.size]; lia)]; exact hn⟩
 have hjm : j <= mask := by rw [<- hp]; exact zhu mask k hk h n'
 have hjs : j < owner.size := by rw [inv.size]; lia
 refine ⟨j, hf, ?_, ?_, ?_⟩
 ·simp [inv.size]
 ·have hone : (zdb mask (owner.setIfInBounds j (some hs.length))).Perm ((j, hs.length) :: zdb mask owner) := by
   unfold zdb
   refine zya _ _ j (j, hs.length) ?_ ?_ ?_ _ List.nodup_range (List.mem_range.mpr (by lia))
   ·rw [<- zi8 _ _ hjs, hj]; rfl
   ·rw [zfz _ _ _ _ _ hjs, if_pos rfl]; rfl
   ·intro y hy; rw [zfz _ _ _ _ _ hjs, if_neg hy]
  refine (hone.map _).trans ?_
  rw [List.map_cons, List.length_append, List.length_singleton, List.range_succ]
  exact ((List.Perm.cons _ inv.perm)).trans (List.perm_append_comm (l₁:=[hs.length]))
 ·intro x i hx
  rw [zfz _ _ _ _ _ hjs] at hx
  have hne : ∀ y, owner.getD y (some 0) ≠ none -> (owner.setIfInBounds j (some hs.length)).getD y (some 0) ≠ none := by
   intro y hy; rw [zfz _ _ _ _ _ hjs]; split
   ·exact fun c => by cases c
   ·exact hy
  by_cases hxj : x = j
  ·rw [if_pos hxj] at hx
   cases hx
   refine ⟨h, by simp, n', by rw [hp, hxj], fun q hqq => hne _ (hq q hqq)⟩
  ·rw [if_neg hxj] at hx
   obtain ⟨h', e1, n, e2, e3⟩ := inv.reach x i hx
   refine ⟨h', ?_, n, e2, fun q hqq => hne _ (e3 q hqq)⟩
   rw [List.getElem?_append_left (List.getElem?_eq_some_iff.mp e1).1]; exact e1
theorem zsh (mask k : Nat) (hk : mask + 1 = 2 ^ k) : ∀ (hs done : List Int) (owner : Array (Option Nat)), LInv mask done owner -> (done ++ hs).length <= mask ->
  ∃ owner', hs.foldl (fun acc h => do
    let (owner, k) <- acc
    let j <- layClean.free mask owner (turns mask) (bits h % (mask + 1)) (bits h)
    pure (owner.setIfInBounds j (some k), k + 1)) (some (owner, done.length)) = some (owner', (done ++ hs).length) /\ LInv mask (done ++ hs) owner' := by
 intro hs
 induction hs with
 | nil => intro done owner inv _; exact ⟨owner, by simp, by simpa using inv⟩
 | cons h hs ih =>
  intro done owner inv hl
  obtain ⟨j, hf, inv'⟩ := zsd mask k hk done owner h inv (by simp at hl; lia)
  obtain ⟨ow, h1, h2⟩ := ih (done ++ [h]) _ inv' (by simpa using hl)
  refine ⟨ow, ?_, by simpa using h2⟩
  rw [List.foldl_cons]
  simp only [Option.bind_eq_bind, Option.bind_some, hf, Option.pure_def]
  rw [show (done ++ h :: hs).length = (done ++ [h] ++ hs).length by simp, <- h1]
  simp
theorem zrw (mask k : Nat) (hk : mask + 1 = 2 ^ k) (hs : Array Int) (hl : hs.size <= mask) : ∃ owner, layClean mask hs = some owner /\ LInv mask hs.toList owner := by
 obtain ⟨ow, h1, h2⟩ := zsh mask k hk hs.toList [] (Array.replicate (mask + 1) none) ⟨by simp, by
   have : zdb mask (Array.replicate (mask + 1) none) = [] := by
    unfold zdb
    rw [List.filterMap_eq_nil_iff]
    intro x hx
    simp [Array.getD_eq_getD_getElem?, Array.getElem?_replicate]
    split <;> simp
   rw [this]; simp, fun j i h => by
   simp [Array.getD_eq_getD_getElem?, Array.getElem?_replicate] at h
   split at h <;> simp at h⟩ (by simpa using hl)
 refine ⟨ow, ?_, by simpa using h2⟩
 unfold layClean
 rw [<- Array.foldl_toList]
 rw [show (([] : List Int).length) = 0 from rfl] at h1
 rw [h1]; rfl
theorem zp9 (g : Nat -> Option Nat) : ∀ l : List Nat, ((l.filterMap fun j => (g j).map (j, ·)).map (·.1)).Sublist l := by
 intro l
 induction l with
 | nil => exact List.Sublist.slnil
 | cons x l ih =>
  cases hg : g x with
  | none => rw [List.filterMap_cons_none (by rw [hg]; rfl)]; exact ih.cons x
  | some v => rw [List.filterMap_cons_some (b:=(x, v)) (by rw [hg]; rfl)]; exact ih.cons_cons x
theorem zwz {α : Type} (g : Nat -> Option α) : ∀ L : List (Nat × Nat), (∀ p ∈ L, g p.2 ≠ none) -> ∀ c ∈ (L.map (·.1)).zip ((L.map (·.2)).filterMap g), ∃ p ∈ L, c.1 = p.1 /\ g p.2 = some c.2 := by
 intro L
 induction L with
 | nil => intro _ c hc; simp at hc
 | cons p L ih =>
  intro h c hc
  cases hg : g p.2 with
  | none => exact absurd hg (h p (.head _))
  | some v =>
   rw [List.map_cons, List.map_cons, List.filterMap_cons_some hg, List.zip_cons_cons] at hc
   rcases List.mem_cons.mp hc with e | e
   ·exact ⟨p, .head _, by rw [e], by rw [e]; exact hg⟩
   ·obtain ⟨p', h1, h2⟩ := ih (fun q hq => h q (.tail _ hq)) c e
    exact ⟨p', .tail _ h1, h2⟩
theorem zu0 {α : Type} (mask k : Nat) (hk : mask + 1 = 2 ^ (k + 3)) (hb : mask <= 8191) (finger moves : Nat) (led plain : Bool) (es : Array (Int × α)) (hroom : es.size * 5 < mask * 3) :
  ∃ t order, laid mask finger moves led plain (es.map (·.1)) = some (t, order) /\ t.mask = mask /\ t.dummies = #[] /\ t.led = led /\ t.plain = plain /\ t.finger = finger /\ t.moves = moves /\
   order.toList.Perm (List.range es.size) /\ (order.filterMap (es[·]?)).toList.Perm es.toList /\ (order.filterMap (es[·]?)).size = es.size /\ SOk t (order.filterMap (es[·]?)).toList := by
 obtain ⟨ow, h1, inv⟩ := zrw mask _ hk (es.map (·.1)) (by simp; lia)
 have hlen : (es.map (·.1)).toList.length = es.size := by simp
 have hperm := inv.perm
 rw [hlen] at hperm
 unfold laid
 rw [h1]
 have hL : (List.range (mask + 1)).filterMap (fun j => (ow.getD j none).map (j, ·)) = zdb mask ow := rfl
 simp only [Option.bind_eq_bind, Option.bind_some, Option.pure_def, hL]
 refine ⟨_, _, rfl, rfl, rfl, rfl, rfl, rfl, rfl, hperm, ?_⟩
 have hlist : ((((zdb mask ow).map (·.2)).toArray).filterMap (es[·]?)).toList = ((zdb mask ow).map (·.2)).filterMap (es[·]?) := by simp
 have hp2 : ((((zdb mask ow).map (·.2)).toArray).filterMap (es[·]?)).toList.Perm es.toList := by
  rw [hlist]
  refine (hperm.filterMap _).trans ?_
  have : (List.range es.size).filterMap (fun i => es[i]?) = es.toList := by
   have h := zr9 es.toList
   rw [Array.length_toList] at h
   rw [<- h]
   refine zm9 _ fun x _ => (Array.getElem?_toList ..).symm ▸ ?_
   simp
  rw [this]
 refine ⟨hp2, ?_, ?_⟩
 ·rw [<- Array.length_toList, hp2.length_eq, Array.length_toList]
 ·have hsub := zp9 (fun j => ow.getD j none) (List.range (mask + 1))
  have htok : TOk { mask := mask, place := ((zdb mask ow).map (·.1)).toArray, dummies := #[], finger := finger, led := led, moves := moves, plain := plain } := by
   refine ⟨?_, by simp, ?_, by simp, by simp, ⟨k, hk⟩, hb⟩
   ·show (((zdb mask ow).map (·.1)).toArray).toList.Pairwise (· < ·)
    exact List.Pairwise.sublist hsub List.pairwise_lt_range
   ·intro j hj
    have := hsub.subset hj
    rw [List.mem_range] at this
    show j <= mask; lia
  have hmem : ∀ j, ow.getD j none ≠ none -> j ∈ (zdb mask ow).map (·.1) := by
   intro j hj
   have hjs : j < ow.size := by
    refine Nat.lt_of_not_le fun c => hj ?_
    simp [Array.getD, Nat.not_lt.mpr c]
   cases hg : ow.getD j none with
   | none => exact absurd hg hj
   | some i => exact List.mem_map.mpr ⟨(j, i), List.mem_filterMap.mpr ⟨j, List.mem_range.mpr (by rw [<- inv.size]; exact hjs), by rw [hg]; rfl⟩, rfl⟩
  have hlt : ∀ p ∈ zdb mask ow, ow.getD p.1 none = some p.2 := by
   intro p hp
   obtain ⟨j, _, hj⟩ := List.mem_filterMap.mp hp
   cases hg : ow.getD j none with
   | none => rw [hg] at hj; cases hj
   | some i => rw [hg] at hj; cases hj; exact hg
  have hin : ∀ p ∈ zdb mask ow, p.2 < es.size := by
   intro p hp
   have : p.2 ∈ (zdb mask ow).map (·.2) := List.mem_map.mpr ⟨p, hp, rfl⟩
   exact List.mem_range.mp (hperm.mem_iff.mp this)
  refine ⟨htok, ?_, ?_, ?_⟩
  ·show (((zdb mask ow).map (·.1)).toArray.size + 0) * 5 < mask * 3
   have := hperm.length_eq
   simp at this ⊢
   rw [this]; exact hroom
  ·rw [hp2.length_eq]
   have := hperm.length_eq
   simp at this ⊢
   exact this
  ·intro c hc
   rw [hlist] at hc
   obtain ⟨p, hp, e1, e2⟩ := zwz (fun i => es[i]?) (zdb mask ow) (fun p hp => by
    rw [Array.getElem?_eq_getElem (hin p hp)]; exact fun c => by cases c) c hc
   obtain ⟨h', a1, n, a2, a3⟩ := inv.reach p.1 p.2 (hlt p hp)
   have hh : h' = c.2.1 := by
    rw [Array.toList_map, List.getElem?_map, Array.getElem?_toList, e2] at a1
    simpa using a1.symm
   subst hh
   refine ⟨n, by rw [e1]; exact a2, fun m hm hc => ?_⟩
   have := (zc3 htok _).mp hc
   refine this.1 (hmem _ ?_)
   have h3 := a3 m hm
   rwa [zi8 _ _ (by rw [inv.size]; exact Nat.lt_succ_of_le (zhu mask _ hk _ _))] at h3
end L2T
namespace L2T
open PySem SetTable
theorem znz (t t' : SetTable) (h1 : t'.place = t.place) (h2 : t'.dummies = t.dummies) (j : Nat) : t'.slot j = t.slot j := by
 unfold slot; rw [h1, h2]
theorem zey {t t' : SetTable} (hm : t'.mask = t.mask) (h : ∀ j, t.slot j ≠ .empty -> t'.slot j ≠ .empty) {x : Int} {j : Nat} (hr : zie t x j) : zie t' x j := by
 obtain ⟨n, h1, h2⟩ := hr
 exact ⟨n, by rw [hm]; exact h1, fun m hm' => by rw [hm]; exact h _ (h2 m hm')⟩
theorem zo5 {α : Type} {t t' : SetTable} {es : List (Int × α)} (h : SOk t es) (hm : t'.mask = t.mask) (h1 : t'.place = t.place) (h2 : t'.dummies = t.dummies) : SOk t' es := by
 obtain ⟨⟨a1, a2, a3, a4, a5, a6, a7⟩, b, c, d⟩ := h
 refine ⟨⟨by rw [h1]; exact a1, by rw [h2]; exact a2, by rw [h1, hm]; exact a3, by rw [h2, hm]; exact a4, by rw [h1, h2]; exact a5, by rw [hm]; exact a6, by rw [hm]; exact a7⟩, ?_, by rw [h1]; exact c, ?_⟩
 ·unfold fill at *; rw [h1, h2, hm]; exact b
 ·rw [h1]; intro x hx
  exact zey hm (fun j hj => by rw [znz t t' h1 h2]; exact hj) (d x hx)
theorem zpj {α : Type} (finger moves : Nat) (led : Bool) : SOk (α:=α) (fresh finger moves led) [] := by
 refine ⟨⟨by simp [SetTable.fresh], by simp [SetTable.fresh], by simp [SetTable.fresh], by simp [SetTable.fresh], by simp [SetTable.fresh], ⟨0, by simp [SetTable.fresh]⟩, by simp [SetTable.fresh]⟩, by simp [SetTable.fresh, SetTable.fill], by simp [SetTable.fresh], ?_⟩
 intro c hc; simp at hc
theorem zjv (n : Nat) : ∀ (fuel size : Nat), (∃ k, size = 2 ^ (k + 3)) -> n < size * 2 ^ fuel ->
  (∃ k, sizeAbove.go n fuel size = 2 ^ (k + 3)) /\ n < sizeAbove.go n fuel size /\ (sizeAbove.go n fuel size <= size \/ sizeAbove.go n fuel size <= 2 * n) := by
 intro fuel
 induction fuel with
 | zero => intro size hk hn; unfold sizeAbove.go; exact ⟨hk, by simpa using hn, .inl (Nat.le_refl _)⟩
 | succ fuel ih =>
  intro size hk hn
  unfold sizeAbove.go
  by_cases hc : size <= n
  ·rw [if_pos hc]
   obtain ⟨k, hk⟩ := hk
   obtain ⟨h1, h2, h3⟩ := ih (size * 2) ⟨k + 1, by rw [hk, Nat.pow_succ, Nat.pow_succ, Nat.pow_succ, Nat.pow_succ, Nat.pow_succ, Nat.pow_succ, Nat.pow_succ]⟩ (by
    rw [Nat.pow_succ] at hn; rw [Nat.mul_assoc, Nat.mul_comm 2]; exact hn)
   refine ⟨h1, h2, .inr ?_⟩
   rcases h3 with h3 | h3 <;> omega
  ·rw [if_neg hc]
   exact ⟨hk, by lia, .inl (Nat.le_refl _)⟩
theorem zfi (n : Nat) (hn : n <= 4095) : (∃ k, sizeAbove n - 1 + 1 = 2 ^ (k + 3)) /\ n <= sizeAbove n - 1 /\ 7 <= sizeAbove n - 1 /\ sizeAbove n - 1 <= 8191 /\ sizeAbove n <= 8192 := by
 obtain ⟨⟨k, h1⟩, h2, h3⟩ := zjv n 64 8 ⟨0, by decide⟩ (Nat.lt_of_le_of_lt hn (by decide))
 have h1' : sizeAbove n = 2 ^ (k + 3) := h1
 have h2' : n < sizeAbove n := h2
 have h3' : sizeAbove n <= 8 \/ sizeAbove n <= 2 * n := h3
 have hk : 8 <= 2 ^ (k + 3) := by rw [Nat.pow_add]; have := Nat.two_pow_pos k; lia
 refine ⟨⟨k, by omega⟩, by omega, by omega, by omega, by omega⟩
theorem zk0 {α : Type} (t : SetTable) (es : Array (Int × α)) (wanted : Nat) (h1 : 2 * es.size <= wanted) (h2 : wanted <= 4095) :
  ∃ t' order, t.relaid (es.map (·.1)) wanted = some (t', order) /\ t'.dummies = #[] /\ t'.mask = sizeAbove wanted - 1 /\ t'.led = t.led /\ t'.plain = t.plain /\
   order.toList.Perm (List.range es.size) /\ (order.filterMap (es[·]?)).toList.Perm es.toList /\ (order.filterMap (es[·]?)).size = es.size /\ SOk t' (order.filterMap (es[·]?)).toList := by
 obtain ⟨⟨k, hk⟩, a, b, c, _⟩ := zfi wanted h2
 obtain ⟨t', order, e1, e2, e3, e4, e5, e6, e7, e8, e9, e10, e11⟩ := zu0 (sizeAbove wanted - 1) k hk c t.finger (t.movedTo (sizeAbove wanted - 1)) t.led t.plain es (by lia)
 exact ⟨t', order, e1, e3, e2, e4, e5, e8, e9, e10, e11⟩
theorem zqe {α β : Type} : ∀ (p : Nat) (l : List α) (m : List β), (l.zip m).take p = (l.take p).zip (m.take p) := by
 intro p
 induction p with
 | zero => intro l m; simp
 | succ p ih => intro l m; cases l with
  | nil => simp
  | cons a l => cases m with
   | nil => simp
   | cons b m => simp [ih]
theorem zoy {α β : Type} : ∀ (p : Nat) (l : List α) (m : List β), (l.zip m).drop p = (l.drop p).zip (m.drop p) := by
 intro p
 induction p with
 | zero => intro l m; simp
 | succ p ih => intro l m; cases l with
  | nil => simp
  | cons a l => cases m with
   | nil => simp
   | cons b m => simp [ih]
theorem zn8 {α β : Type} (p : Nat) (a : α) (b : β) : ∀ (l : List α) (m : List β), l.length = m.length ->
  (l.take p ++ a :: l.drop p).zip (m.take p ++ b :: m.drop p) = (l.zip m).take p ++ (a, b) :: (l.zip m).drop p := by
 intro l m h
 rw [List.zip_append (by simp [h]), List.zip_cons_cons, <- zqe, <- zoy]
theorem zba {α : Type} (p : Nat) (a : α) (l : List α) : (l.take p ++ a :: l.drop p).Perm (a :: l) := by
 have h : (l.take p ++ a :: l.drop p).Perm (a :: (l.take p ++ l.drop p)) := List.perm_middle
 rw [List.take_append_drop] at h; exact h
theorem zj4 (xs : Array Nat) (i : Nat) (j : Nat) (hp : xs.toList.Pairwise (· < ·)) (h : xs[i]? = some j) (x : Nat) : x ∈ (eraseAt xs i).toList ↔ x ∈ xs.toList /\ x ≠ j := by
 rw [zcr]
 rw [<- Array.getElem?_toList] at h
 obtain ⟨hi, hx⟩ := List.getElem?_eq_some_iff.mp h
 have hsp : xs.toList = xs.toList.take i ++ j :: xs.toList.drop (i + 1) := by
  rw [<- hx, List.getElem_cons_drop, List.take_append_drop]
 have hp' := hp
 rw [hsp, List.pairwise_append, List.pairwise_cons] at hp'
 obtain ⟨p1, ⟨p2, p3⟩, p4⟩ := hp'
 rw [List.mem_append]
 constructor
 ·rintro (h1 | h1)
  ·have := p4 x h1 j (.head _); exact ⟨List.mem_of_mem_take h1, by lia⟩
  ·have := p2 x h1; exact ⟨List.mem_of_mem_drop h1, by lia⟩
 ·rintro ⟨h1, h2⟩
  rw [hsp, List.mem_append] at h1
  rcases h1 with h1 | h1
  ·exact .inl h1
  ·rcases List.mem_cons.mp h1 with e | e
   ·exact absurd e h2
   ·exact .inr e
theorem zua {α : Type} (t : SetTable) (es : Array (Int × α)) (h : Int) (x : α) (s : Nat) (ok : SOk t es.toList) (hs : t.slot s = .empty \/ t.slot s = .dummy) (hm : s <= t.mask) (hr : zie t h s) :
  TOk (t.put s).1 /\ (t.put s).1.mask = t.mask /\ (t.put s).1.place.size = (insertAt es (t.put s).2 (h, x)).size /\
  (∀ c ∈ (t.put s).1.place.toList.zip (insertAt es (t.put s).2 (h, x)).toList, zie (t.put s).1 c.2.1 c.1) /\
  (t.put s).1.fill <= t.fill + 1 /\ (t.slot s = .dummy -> (t.put s).1.fill = t.fill) /\ (insertAt es (t.put s).2 (h, x)).toList.Perm ((h, x) :: es.toList) /\
  (t.put s).1.led = t.led /\ (t.put s).1.plain = t.plain := by
 obtain ⟨⟨a1, a2, a3, a4, a5, a6, a7⟩, b, c, d⟩ := ok
 have tok : TOk t := ⟨a1, a2, a3, a4, a5, a6, a7⟩
 have hnp : s ∉ t.place.toList := by
  rcases hs with hs | hs
  ·exact ((zc3 tok s).mp hs).1
  ·exact a5 s ((zdx tok s).mp hs)
 have hb := (zd0 t.place s a1).1
 have hbe : below t.place s <= es.size := by have : t.place.size = es.size := (by simpa using c); lia
 have hd' : ∀ y, y ∈ (if has t.dummies s = true then eraseAt t.dummies (below t.dummies s) else t.dummies).toList ↔ y ∈ t.dummies.toList /\ y ≠ s := by
  intro y
  by_cases hh : has t.dummies s = true
  ·rw [if_pos hh]
   exact zj4 t.dummies _ s a2 ((zc1 _ _ a2).mpr ((zgs _ _ a2).mp hh)) y
  ·rw [if_neg hh]
   exact ⟨fun hy => ⟨hy, fun e => hh ((zgs _ _ a2).mpr (e ▸ hy))⟩, fun hy => hy.1⟩
 have hpl : (t.put s).1.place.toList = t.place.toList.take (below t.place s) ++ s :: t.place.toList.drop (below t.place s) := za9 _ _ _ hb
 have hmp : ∀ y, y ∈ (t.put s).1.place.toList ↔ y = s \/ y ∈ t.place.toList := by
  intro y; rw [hpl, (zba _ _ _).mem_iff, List.mem_cons]
 have hmd : ∀ y, y ∈ (t.put s).1.dummies.toList ↔ y ∈ t.dummies.toList /\ y ≠ s := hd'
 have htok : TOk (t.put s).1 := by
  refine ⟨zg5 _ _ a1 hnp, ?_, ?_, ?_, ?_, a6, a7⟩
  ·show (if has t.dummies s = true then eraseAt t.dummies (below t.dummies s) else t.dummies).toList.Pairwise (· < ·)
   split
   ·rw [zcr]
    refine List.Pairwise.sublist ?_ a2
    have : (t.dummies.toList.take (below t.dummies s) ++ t.dummies.toList.drop (below t.dummies s + 1)).Sublist (t.dummies.toList.take (below t.dummies s) ++ t.dummies.toList.drop (below t.dummies s)) :=
     List.Sublist.append (List.Sublist.refl _) (by rw [<- List.drop_drop]; exact List.drop_sublist _ _)
    rw [List.take_append_drop] at this; exact this
   ·exact a2
  ·intro j hj; rcases (hmp j).mp hj with e | e
   ·rw [e]; exact hm
   ·exact a3 j e
  ·intro j hj; exact a4 j ((hmd j).mp hj).1
  ·intro j hj hc
   rcases (hmp j).mp hc with e | e
   ·exact ((hmd j).mp hj).2 e
   ·exact a5 j ((hmd j).mp hj).1 e
 have hmono : ∀ j, t.slot j ≠ .empty -> (t.put s).1.slot j ≠ .empty := by
  intro j hj hc
  obtain ⟨c1, c2⟩ := (zc3 htok j).mp hc
  refine hj ((zc3 tok j).mpr ⟨fun e => c1 ((hmp j).mpr (.inr e)), fun e => ?_⟩)
  by_cases he : j = s
  ·exact c1 ((hmp j).mpr (.inl he))
  ·exact c2 ((hmd j).mpr ⟨e, he⟩)
 refine ⟨htok, rfl, ?_, ?_, ?_, ?_, ?_, rfl, rfl⟩
 ·show (insertAt t.place (below t.place s) s).size = (insertAt es (below t.place s) (h, x)).size
  rw [<- Array.length_toList, <- Array.length_toList, za9 _ _ _ hb, za9 _ _ _ hbe, (zba _ _ _).length_eq, (zba _ _ _).length_eq]
  simpa using c
 ·intro e he
  rw [hpl] at he
  have he' : e ∈ (t.place.toList.take (below t.place s) ++ s :: t.place.toList.drop (below t.place s)).zip (insertAt es (below t.place s) (h, x)).toList := he
  rw [za9 _ _ _ hbe, zn8 _ _ _ _ _ (by simpa using c), (zba _ _ _).mem_iff, List.mem_cons] at he'
  rcases he' with e1 | e1
  ·rw [e1]; exact zey (t:=t) (t':=(t.put s).1) rfl hmono hr
  ·exact zey (t:=t) (t':=(t.put s).1) rfl hmono (d e e1)
 ·show (insertAt t.place (below t.place s) s).size + (if has t.dummies s = true then eraseAt t.dummies (below t.dummies s) else t.dummies).size <= t.fill + 1
  have h1 : (insertAt t.place (below t.place s) s).size = t.place.size + 1 := by
   rw [<- Array.length_toList, za9 _ _ _ hb, (zba _ _ _).length_eq]; simp
  have h2 : (if has t.dummies s = true then eraseAt t.dummies (below t.dummies s) else t.dummies).size <= t.dummies.size := by
   split
   ·rw [<- Array.length_toList, zcr]; simp; omega
   ·exact Nat.le_refl _
  unfold fill; lia
 ·intro hdm
  show (insertAt t.place (below t.place s) s).size + (if has t.dummies s = true then eraseAt t.dummies (below t.dummies s) else t.dummies).size = t.fill
  have h1 : (insertAt t.place (below t.place s) s).size = t.place.size + 1 := by
   rw [<- Array.length_toList, za9 _ _ _ hb, (zba _ _ _).length_eq]; simp
  have hin := (zdx tok s).mp hdm
  rw [if_pos ((zgs _ _ a2).mpr hin)]
  have hlt := (Array.getElem?_eq_some_iff.mp ((zc1 _ _ a2).mpr hin)).1
  have h2 : (eraseAt t.dummies (below t.dummies s)).size + 1 = t.dummies.size := by
   rw [<- Array.length_toList, zcr]; simp; lia
  unfold fill; lia
 ·show (insertAt es (below t.place s) (h, x)).toList.Perm ((h, x) :: es.toList)
  rw [za9 _ _ _ hbe]; exact zba _ _ _
end L2T
namespace L2
open PySem PySem.Spec PyProof.Rows L2T
inductive SK where
 | one (k : Key)
 | many (ks : List Key)
 deriving DecidableEq
noncomputable def SK.flat : SK -> Bool
 | .one _ => true
 | .many _ => false
section
variable (prog : Program) (w : World)
noncomputable def SK.is (h : Heap) : SK -> Value -> Prop
 | .one k, v => (zav prog w).is k v = true
 | .many ks, v => ∃ a, v = .ref a /\ IsTupleKey (zav prog w) h ks a
noncomputable def SK.hash : SK -> Int
 | .one k => (zav prog w).hash k
 | .many ks => tupleKeyHash (zav prog w) ks
inductive Es (h : Heap) : List SK -> List (Int × Value) -> Prop
 | nil : Es h [] []
 | cons {k : SK} {e : Int × Value} {ks : List SK} {es : List (Int × Value)} : e.1 = k.hash prog w -> k.is prog w h e.2 -> Es h ks es -> Es h (k :: ks) (e :: es)
noncomputable def ziu (h h' : Heap) : Prop := ∀ b o, o.cls = .type "tuple" -> h.get? b = some o -> h'.get? b = some o
noncomputable def led0 : Bool := !w.params.followText "set-order"
structure SetO (h : Heap) (o : Obj) (ks : List SK) (es : Array (Int × Value)) (ep : Nat) (t : SetTable) : Prop where
 ex : o.ExactSet
 data : o.data = .set es ep t
 tab : SOk t es.toList
 ent : Es prog w h ks es.toList
 nod : ks.Nodup
 small : ks.length <= 1000
 led : t.led = led0 w
 kind : ∃ f, ∀ k ∈ ks, k.flat = f
noncomputable def SetE (h : Heap) (a : Addr) (ks : List SK) (es : Array (Int × Value)) : Prop := ∃ o ep t, h.get? a = some o /\ SetO prog w h o ks es ep t
end
section
variable {prog : Program} {w : World} {h h' : Heap}
theorem SK.is_mono {k : SK} {v : Value} (K : ziu h h') (x : k.is prog w h v) : k.is prog w h' v := by
 cases k with
 | one k => exact x
 | many ks =>
  obtain ⟨a, rfl, o, its, n, e, c, d, i⟩ := x
  exact ⟨a, rfl, o, its, n, K a o c e, c, d, i⟩
theorem Es.mono {ks : List SK} {es : List (Int × Value)} (K : ziu h h') (x : Es prog w h ks es) : Es prog w h' ks es := by
 induction x with
 | nil => exact .nil
 | cons a b _ ih => exact .cons a (SK.is_mono K b) ih
theorem Es.length {ks : List SK} {es : List (Int × Value)} (x : Es prog w h ks es) : ks.length = es.length := by
 induction x with
 | nil => rfl
 | cons a b _ ih => simp [ih]
theorem Es.get {ks : List SK} {es : List (Int × Value)} (x : Es prog w h ks es) : ∀ (i : Nat) (e : Int × Value), es[i]? = some e -> ∃ k, ks[i]? = some k /\ e.1 = k.hash prog w /\ k.is prog w h e.2 := by
 induction x with
 | nil => intro i e he; simp at he
 | cons a b _ ih =>
  intro i e he
  cases i with
  | zero => simp at he; subst he; exact ⟨_, rfl, a, b⟩
  | succ i => exact ih i e he
theorem Es.perm {ks : List SK} {es es' : List (Int × Value)} (x : Es prog w h ks es) (p : es'.Perm es) : ∃ ks', ks'.Perm ks /\ Es prog w h ks' es' := by
 have p' := p.symm
 clear p
 induction p' generalizing ks with
 | nil => exact ⟨ks, .refl _, x⟩
 | cons e _ ih =>
  cases x with
  | cons a b y =>
   obtain ⟨k2, q, z⟩ := ih y
   exact ⟨_ :: k2, q.cons _, .cons a b z⟩
 | swap e f l =>
  cases x with
  | cons a b y => cases y with
   | cons c d z => exact ⟨_ :: _ :: _, List.Perm.swap _ _ _, .cons c d (.cons a b z)⟩
 | trans _ _ ih1 ih2 =>
  obtain ⟨k1, q1, z1⟩ := ih1 x
  obtain ⟨k2, q2, z2⟩ := ih2 z1
  exact ⟨k2, q2.trans q1, z2⟩
theorem SetO.fits {o : Obj} {ks : List SK} {es : Array (Int × Value)} {ep : Nat} {t : SetTable} (S : SetO prog w h o ks es ep t) : t.fits es.size = true := by
 have h1 := S.tab.size
 have h2 := S.tab.room
 simp only [SetTable.fits, Bool.and_eq_true, beq_iff_eq, decide_eq_true_eq]
 exact ⟨by simpa using h1, by lia⟩
theorem SetO.mono {o : Obj} {ks : List SK} {es : Array (Int × Value)} {ep : Nat} {t : SetTable} (K : ziu h h') (S : SetO prog w h o ks es ep t) : SetO prog w h' o ks es ep t :=
 ⟨S.ex, S.data, S.tab, S.ent.mono K, S.nod, S.small, S.led, S.kind⟩
theorem zem {a : Addr} {o : Obj} {es : Array (Int × Value)} {ep : Nat} {t : SetTable} (ho : h.get? a = some o) (hd : o.ExactSet) (hs : Heap.SameBut a h h') : ziu h h' := by
 intro b u c e
 have hne : b ≠ a := by
  rintro rfl
  rw [ho] at e; cases e
  rw [hd.1] at c; exact absurd c (by decide)
 exact (hs.2 b hne).trans e
end
end L2
namespace L2
open PySem PySem.Spec PyProof.Rows L2T
theorem zmm (b : Addr) : isSame (.ref b) (.ref b) = pure true := by
 show (if (b == b) = true then (pure true : Sem Bool) else _) = _
 rw [if_pos (beq_self_eq_true b)]
section
variable {prog : Program} {w : World} {A : Around} {E : Value -> Shared -> Prop} {s : Shared}
theorem zjc {M : Model} {a : Addr} {o : Obj} {ks : List SK} {es : Array (Int × Value)} {ep : Nat} {t : SetTable} {Q : Array (Int × Value) × Nat × SetTable -> Shared -> Prop}
  (ho : s.heap.get? a = some o) (S : SetO prog w s.heap o ks es ep t) (q : Q (es, ep, t) s) : wpAny (model prog w) A (setState a) Q E s :=
 wpAny_setState_of ho S.data S.fits q
theorem zt2 {ks : List Key} {v : Value} {a : Addr} {Q : Bool -> Shared -> Prop} (hk : IsTupleKey (zav prog w) s.heap ks a) (h : Q false s) : wpAny (model prog w) A (ofAClassStatement 8 (.ref a)) Q E s := by
 have hT := hk.typeIs
 obtain ⟨o, its, n, ho, _, hd, hi⟩ := hk
 unfold ofAClassStatement
 refine wpAny_bind (wpAny_typeOf hT ?_)
 show wpAny _ _ ((if ("tuple" == "tuple") = true then pure true else isSubtype (.type "tuple") (.type "tuple")) >>= _) Q E s
 refine wpAny_bind (wpAny_pure ?_)
 show wpAny _ _ (seqItems? (.ref a) >>= _) Q E s
 refine wpAny_bind (wpAny_seqItems ho hd ?_)
 show wpAny _ _ (forIn its _ _ >>= _) Q E s
 refine wpAny_bind ?_
 rw [<- Array.forIn_toList]
 refine wpAny_forIn_list _ (fun rest r s' => r.1 = none /\ s' = s /\ ∀ v ∈ rest, carriedByValue v = true) _ ?_ ?_ _ _ ⟨rfl, rfl, hi.byValue⟩
 ·rintro v rest r s' ⟨hr, rfl, hall⟩
  have hv := hall v List.mem_cons_self
  have e : ofAClassStatement 7 v = pure false := by
   cases v <;> first | rfl | (simp [carriedByValue] at hv)
  show wpAny _ _ (ofAClassStatement 7 v >>= _) _ _ _
  rw [e]
  refine wpAny_bind (wpAny_pure ?_)
  simp only [Bool.false_eq_true, if_false]
  exact wpAny_pure ⟨rfl, rfl, fun u hu' => hall u (List.mem_cons_of_mem _ hu')⟩
 ·rintro ⟨r1, r2⟩ s' ⟨hr, rfl, _⟩
  simp only at hr
  subst hr
  exact wpAny_pure h
theorem ztt {kk : List Key} {a : Addr} {Q : Bool -> Shared -> Prop} (hk : IsTupleKey (zav prog w) s.heap kk a) (h : Q false s) :
  ∀ ys : List Value, (∀ y ∈ ys, ∃ b ks, y = .ref b /\ IsTupleKey (zav prog w) s.heap ks b) -> wpAny (model prog w) A (searchCouldBeSeen (.ref a) ys) Q E s := by
 intro ys hys
 unfold searchCouldBeSeen
 refine wpAny_bind ?_
 refine wpAny_forIn_list _ (fun rest r s' => r.1 = none /\ s' = s /\ ∀ y ∈ rest, ∃ b ks, y = .ref b /\ IsTupleKey (zav prog w) s.heap ks b) _ ?_ ?_ _ _ ⟨rfl, rfl, hys⟩
 ·rintro y rest r s' ⟨hr, rfl, hall⟩
  obtain ⟨b, ks, rfl, hb⟩ := hall y List.mem_cons_self
  have hrest : ∀ y ∈ rest, ∃ b ks, y = .ref b /\ IsTupleKey (zav prog w) s'.heap ks b := fun y hy => hall y (List.mem_cons_of_mem _ hy)
  dsimp only
  by_cases hab : (a == b) = true
  ·rw [if_pos (by rw [hab]; rfl)]
   exact wpAny_pure ⟨rfl, rfl, hrest⟩
  ·rw [if_neg (by rw [Bool.not_eq_true] at hab; rw [hab]; simp [carriedByValue])]
   refine wpAny_bind (wpAny_eqIsQuiet_tuple hk ?_)
   simp only [Bool.not_true, Bool.false_eq_true, if_false]
   refine wpAny_bind (wpAny_eqIsQuiet_tuple hb ?_)
   simp only [Bool.not_true, Bool.false_eq_true, if_false]
   refine wpAny_bind (zt2 (v:=.none) hk ?_)
   simp only [Bool.false_eq_true, if_false]
   refine wpAny_bind (zt2 (v:=.none) hb ?_)
   simp only [Bool.false_eq_true, if_false]
   exact wpAny_pure ⟨rfl, rfl, hrest⟩
 ·rintro ⟨r1, r2⟩ s' ⟨hr, rfl, _⟩
  simp only at hr
  subst hr
  exact wpAny_pure h
theorem zsj {a : Addr} {o : Obj} {ks : List SK} {es : Array (Int × Value)} {ep : Nat} {t : SetTable} {x : Value} {kk : List Key} {adding : Bool} {Q : SetFound -> Shared -> Prop} (hu : A.units < cLine)
  (ho : s.heap.get? a = some o) (S : SetO prog w s.heap o ks es ep t) (hk : ∀ k ∈ ks, k.flat = false) (hx : (SK.many kk).is prog w s.heap x)
  (found : ∀ i, ks[i]? = some (.many kk) -> Q (.there (if adding then none else some i)) s)
  (free : SK.many kk ∉ ks -> ∀ sl wd, sl <= t.mask -> zie t (SK.hash prog w (.many kk)) sl -> (wd = true -> t.slot sl = .dummy) -> (wd = false -> t.slot sl = .empty) -> Q (.free sl wd) s) :
  ∀ (fuel n : Nat) (stand : Option SetTable.Probe), (stand = none -> n = 0) ->
   (∀ p, stand = some p -> zk2 p (prM t.mask (SK.hash prog w (.many kk)) n) /\ (p.dummy = none \/ ∃ q, q < n /\ p.dummy = some (posM t.mask (SK.hash prog w (.many kk)) q) /\ t.slot (posM t.mask (SK.hash prog w (.many kk)) q) = .dummy)) ->
   (∀ q, q < n -> t.slot (posM t.mask (SK.hash prog w (.many kk)) q) ≠ .empty /\ ∀ i, t.slot (posM t.mask (SK.hash prog w (.many kk)) q) = .live i -> ks[i]? ≠ some (.many kk)) ->
   (∃ N, n <= N /\ N < n + fuel /\ N < 10 * SetTable.turns t.mask /\ t.slot (posM t.mask (SK.hash prog w (.many kk)) N) = .empty) ->
   wpAny (model prog w) A (setSearchFrom a x (SK.hash prog w (.many kk)) adding fuel stand) Q E s := by
 generalize hH : SK.hash prog w (.many kk) = hh at *
 have tok := S.tab.ok
 obtain ⟨kp, hpow⟩ := tok.pow
 obtain ⟨ax, rfl, hax⟩ := hx
 have hgw : t.gaveWay = false := by
  unfold SetTable.gaveWay
  rw [Nat.pow_succ] at hpow
  rw [beq_eq_false_iff_ne]; lia
 have hent : ∀ (i : Nat) (h : Int) (y : Value), es[i]? = some (h, y) -> ∃ (b : Addr) (k2 : List Key), y = Value.ref b /\ IsTupleKey (zav prog w) s.heap k2 b /\ ks[i]? = some (SK.many k2) /\ h = SK.hash prog w (SK.many k2) := by
  intro i h y he
  obtain ⟨k, h1, h2, h3⟩ := S.ent.get i (h, y) (by rw [Array.getElem?_toList]; exact he)
  have hf := hk k (List.mem_of_getElem? h1)
  cases k with
  | one k => simp [SK.flat] at hf
  | many k2 => obtain ⟨b, rfl, hb⟩ := h3; exact ⟨b, k2, rfl, hb, h1, h2⟩
 intro fuel
 induction fuel with
 | zero => rintro n stand _ _ _ ⟨N, h1, h2, _⟩; lia
 | succ fuel ih =>
  rintro n stand hst hsp hq ⟨N, n1, n2, n3, n4⟩
  unfold setSearchFrom
  refine wpAny_bind (zjc (M:=model prog w) ho S ?_)
  dsimp only
  rw [hgw]
  simp only [Bool.false_eq_true, if_false]
  have hstart : zk2 (stand.getD (t.probeStart hh)) (prM t.mask hh n) /\ ((stand.getD (t.probeStart hh)).dummy = none \/ ∃ q, q < n /\ (stand.getD (t.probeStart hh)).dummy = some (posM t.mask hh q) /\ t.slot (posM t.mask hh q) = .dummy) := by
   cases stand with
   | none => rw [hst rfl]; exact ⟨⟨rfl, rfl, rfl, rfl⟩, .inl rfl⟩
   | some p => exact hsp p rfl
  obtain ⟨m, m1, m2, d, hd, hr⟩ := zmj t (fun i => (es[i]?.map (·.1)).getD 0) hh (10 * SetTable.turns t.mask) _ n hstart.1 ⟨N, n1, by lia, n4⟩
  have hd' : d = none \/ ∃ q, q < m /\ d = some (posM t.mask hh q) /\ t.slot (posM t.mask hh q) = .dummy := by
   rcases hd with hd | ⟨q, q1, q2, q3, q4⟩
   ·rcases hstart.2 with e | ⟨q, q1, q2, q3⟩
    ·exact .inl (hd.trans e)
    ·exact .inr ⟨q, by lia, hd.trans q2, q3⟩
   ·exact .inr ⟨q, q2, q3, q4⟩
  have hne : ∀ q, q < m -> t.slot (posM t.mask hh q) ≠ .empty := fun q hqm => by
   rcases Nat.lt_or_ge q n with hl | hl
   ·exact (hq q hl).1
   ·exact (m2 q hl hqm).1
  rcases hr with ⟨hemp, hr⟩ | ⟨i, nx, hlive, hhash, hr, hsn, hdn⟩
  ·-- an empty slot: it is not there
   have habs : SK.many kk ∉ ks := by
    intro hin
    obtain ⟨i, hi⟩ := List.mem_iff_getElem?.mp hin
    have hil : i < ks.length := (List.getElem?_eq_some_iff.mp hi).1
    have hie : i < es.size := by have := S.ent.length; simp at this; lia
    have hip : i < t.place.size := by have := S.tab.size; simp at this; lia
    have hpl : t.place[i]? = some t.place[i] := Array.getElem?_eq_getElem hip
    have hes : es[i]? = some es[i] := Array.getElem?_eq_getElem hie
    obtain ⟨b, k2, hy, hb, hki, hhi⟩ := hent i es[i].1 es[i].2 hes
    have hkk : k2 = kk := by rw [hi] at hki; cases hki; rfl
    subst hkk
    have hreach := S.tab.reach (t.place[i], es[i]) (by
     rw [List.mem_iff_getElem?]
     refine ⟨i, ?_⟩
     rw [List.getElem?_zip_eq_some]
     exact ⟨by rw [Array.getElem?_toList]; exact hpl, by rw [Array.getElem?_toList]; exact hes⟩)
    obtain ⟨n', e1, e2⟩ := hreach
    dsimp only at e1 e2
    rw [hhi, hH] at e1 e2
    have hl : t.slot (posM t.mask hh n') = .live i := by rw [e1]; exact (zdo tok _ i).mpr hpl
    rcases Nat.lt_trichotomy n' m with c | c | c
    ·rcases Nat.lt_or_ge n' n with c2 | c2
     ·exact (hq n' c2).2 i hl hi
     ·refine (m2 n' c2 c).2 i hl ?_
      rw [hes]; show es[i].1 = hh; rw [hhi, hH]
    ·subst c; rw [hl] at hemp; cases hemp
    ·exact e2 m c hemp
   generalize hX : t.probe _ hh _ = pX
   have hX2 := hX.symm.trans hr
   subst hX2
   rcases hd' with rfl | ⟨q, q1, rfl, q2⟩
   ·exact wpAny_pure (free habs _ false (zhu _ _ hpow hh m) ⟨m, rfl, hne⟩ (fun e => by cases e) (fun _ => hemp))
   ·dsimp only
    rw [q2]
    have : (adding && (SetTable.Slot.dummy != SetTable.Slot.dummy)) = false := by cases adding <;> decide
    rw [this]
    simp only [Bool.false_eq_true, if_false]
    exact wpAny_pure (free habs _ true (zhu _ _ hpow hh q) ⟨q, rfl, fun m' hm' => hne m' (by lia)⟩ (fun _ => q2) (fun e => by cases e))
  ·have hpl := (zdo tok _ i).mp hlive
   have hip : i < t.place.size := (Array.getElem?_eq_some_iff.mp hpl).1
   have hie : i < es.size := by have := S.tab.size; simp at this; lia
   have hes : es[i]? = some es[i] := Array.getElem?_eq_getElem hie
   obtain ⟨b, k2, hy, hb, hki, hhi⟩ := hent i es[i].1 es[i].2 hes
   generalize hX : t.probe _ hh _ = pX
   have hX2 := hX.symm.trans hr
   subst hX2
   dsimp only
   have hall : ∀ y ∈ (es.filter (·.1 == hh)).toList.map (·.2), ∃ (b : Addr) (k3 : List Key), y = Value.ref b /\ IsTupleKey (zav prog w) s.heap k3 b := by
    intro y hy
    obtain ⟨e, he, rfl⟩ := List.mem_map.mp hy
    have he' := (Array.mem_filter.mp (Array.mem_toList_iff.mp he)).1
    obtain ⟨j, hj⟩ := List.mem_iff_getElem?.mp (Array.mem_toList_iff.mpr he')
    rw [Array.getElem?_toList] at hj
    obtain ⟨b, k3, hy, hb, _⟩ := hent j e.1 e.2 hj
    exact ⟨b, k3, hy, hb⟩
   by_cases hl : t.led = true
   case' pos => simp only [hl, Bool.not_true, Bool.false_eq_true, if_false]
   case' neg =>
    rw [Bool.not_eq_true] at hl
    simp only [hl, Bool.not_false, if_true]
    refine wpAny_bind (ztt hax ?_ _ hall)
    simp only [Bool.false_eq_true, if_false]
   all_goals
     rw [hes]
     dsimp only
     rw [hy]
     refine wpAny_bind (wpAny_holding (wpAny_eqBool_tuple hu hb hax ?_))
     refine wpAny_bind (zjc (M:=model prog w) ho S ?_)
     dsimp only
     by_cases hkk : k2 = kk
     ·subst hkk
      have hQ := found i hki
      rw [decide_eq_true rfl]
      cases adding with
      | true => exact wpAny_pure hQ
      | false =>
       have hsm : t.sameMemory t.moves t.mask = some true := by unfold SetTable.sameMemory; simp
       simp only [Bool.false_and, Bool.false_eq_true, if_false, hsm, if_true, hlive, hes, hy]
       have hself := zmm b
       rw [hself]
       exact wpAny_bind (wpAny_pure (wpAny_bind (wpAny_pure (wpAny_pure hQ))))
     ·rw [decide_eq_false hkk]
      have hsm : t.sameMemory t.moves t.mask = some true := by unfold SetTable.sameMemory; simp
      simp only [Bool.and_false, Bool.false_eq_true, if_false, hsm, if_true, hlive, hes, hy]
      have hself := zmm b
      rw [hself]
      refine wpAny_bind (wpAny_pure (wpAny_bind (wpAny_pure ?_)))
      have hmN : m < N := by
       refine Nat.lt_of_not_le fun c => ?_
       rcases Nat.eq_or_lt_of_le c with e | e
       ·rw [<- e, n4] at hlive; cases hlive
       ·exact hne N e n4
      refine ih (m + 1) (some nx) (fun e => by cases e) (fun p hp => ?_) (fun q hqm => ?_) ⟨N, by lia, by lia, n3, n4⟩
      ·cases hp
       refine ⟨hsn, ?_⟩
       rw [hdn]
       rcases hd' with e | ⟨q, q1, q2, q3⟩
       ·exact .inl e
       ·exact .inr ⟨q, by lia, q2, q3⟩
      ·rcases Nat.lt_or_ge q m with c | c
       ·refine ⟨hne q c, fun j hj hkj => ?_⟩
        rcases Nat.lt_or_ge q n with c2 | c2
        ·exact (hq q c2).2 j hj hkj
        ·have hpj := (zdo tok _ j).mp hj
         have hjp : j < t.place.size := (Array.getElem?_eq_some_iff.mp hpj).1
         have hje : j < es.size := by have := S.tab.size; simp at this; lia
         have hej : es[j]? = some es[j] := Array.getElem?_eq_getElem hje
         obtain ⟨_, k3, _, _, hkj', hhj⟩ := hent j es[j].1 es[j].2 hej
         rw [hkj] at hkj'; cases hkj'
         refine (m2 q c2 c).2 j hj ?_
         rw [hej]; show es[j].1 = hh; rw [hhj, hH]
       ·have : q = m := by lia
        subst this
        refine ⟨by rw [hlive]; exact fun e => (by cases e), fun j hj hkj => ?_⟩
        rw [hlive] at hj; cases hj
        rw [hki] at hkj; cases hkj; exact hkk rfl
end
end L2
namespace L2
open PySem PySem.Spec PyProof.Rows L2T
section
variable {prog : Program} {w : World} {h : Heap}
theorem zh6 {a : Addr} {o : Obj} {es : Array (Int × Value)} {ep : Nat} {t : SetTable} (ho : h.get? a = some o) (hd : o.data = .set es ep t) (e1 : Array (Int × Value)) (t1 : SetTable) :
  (h.update a (Obj.putSet e1 t1)).get? a = some { o with data := .set e1 (ep + 1) t1 } := by
 have z := Heap.get?_update_self (Obj.putSet e1 t1) ho (by rw [putSet_of e1 t1 hd]; rfl)
 rw [putSet_of e1 t1 hd] at z
 exact z
theorem Es.flats {ks : List SK} {es : List (Int × Value)} (x : Es prog w h ks es) (hf : ∀ k ∈ ks, k.flat = true) : ElemsOf (zav prog w) es := by
 intro e he
 obtain ⟨i, hi⟩ := List.mem_iff_getElem?.mp he
 obtain ⟨k, a, b, c⟩ := x.get i e hi
 have hk := hf k (List.mem_of_getElem? a)
 cases k with
 | many _ => simp [SK.flat] at hk
 | one k =>
  refine ⟨⟨k, c, b⟩, ?_⟩
  rcases zay c with ⟨j, t, _, e2⟩ | ⟨y, t, _, e2⟩ <;> rw [e2] <;> rfl
theorem zkq {k : Key} {x : Value} (hx : SK.is prog w h (.one k) x) : x.scannable = true := by
 rcases zay hx with ⟨j, t, _, e2⟩ | ⟨y, t, _, e2⟩ <;> rw [e2] <;> rfl
theorem Es.idx {ks : List SK} {es : List (Int × Value)} (x : Es prog w h ks es) (hf : ∀ k ∈ ks, k.flat = true) (k : Key) :
  (∀ j, es.findIdx? (fun e => (zav prog w).is k e.2) = some j -> ks[j]? = some (.one k)) /\ (es.findIdx? (fun e => (zav prog w).is k e.2) = none -> SK.one k ∉ ks) := by
 constructor
 ·intro j hj
  obtain ⟨h1, h2, _⟩ := List.findIdx?_eq_some_iff_getElem.mp hj
  obtain ⟨k', a, b, c⟩ := x.get j es[j] (List.getElem?_eq_getElem h1)
  have hk := hf k' (List.mem_of_getElem? a)
  cases k' with
  | many _ => simp [SK.flat] at hk
  | one k' => rw [a, (zav prog w).inj _ _ _ c h2]
 ·intro hn hin
  obtain ⟨i, hi⟩ := List.mem_iff_getElem?.mp hin
  have hil : i < es.length := by rw [<- x.length]; exact (List.getElem?_eq_some_iff.mp hi).1
  obtain ⟨k', a, b, c⟩ := x.get i es[i] (List.getElem?_eq_getElem hil)
  rw [hi] at a; cases a
  have := List.findIdx?_eq_none_iff.mp hn es[i] (List.getElem_mem hil)
  rw [show (zav prog w).is k es[i].2 = true from c] at this; cases this
theorem zp5 {es : Array (Int × Value)} {t : SetTable} (ok : SOk t es.toList) (hh : Int) (x : Value) :
  ∃ sl wd, layNew t es hh x = (SetTable.insertAt es (t.put sl).2 (hh, x), (t.put sl).1, wd, false) /\ sl <= t.mask /\ zie t hh sl /\ (wd = true -> t.slot sl = .dummy) /\ (wd = false -> t.slot sl = .empty) := by
 obtain ⟨kp, hpow⟩ := ok.ok.pow
 obtain ⟨e, he, hemp⟩ := zhh ok.ok (by have := ok.room; lia)
 obtain ⟨N, hN, hp⟩ := zql t.mask _ hpow hh e he
 obtain ⟨m, m1, m2, d, hd, hr⟩ := zmj t (fun _ => hh + 1) hh (10 * SetTable.turns t.mask) (t.probeStart hh) 0 ⟨rfl, rfl, rfl, rfl⟩ ⟨N, Nat.zero_le _, by lia, by rw [hp]; exact hemp⟩
 rcases hr with ⟨h1, h2⟩ | ⟨i, nx, _, h2, _⟩
 ·have hfs : t.freeSlot hh = some (d.getD (posM t.mask hh m), d.isSome) := by
   unfold SetTable.freeSlot SetTable.probe
   rw [h2]
  have key : ∃ sl wd, t.freeSlot hh = some (sl, wd) /\ sl <= t.mask /\ zie t hh sl /\ (wd = true -> t.slot sl = .dummy) /\ (wd = false -> t.slot sl = .empty) := by
   rcases hd with hd | ⟨q, q1, q2, q3, q4⟩
   ·have : d = none := hd
    subst this
    exact ⟨_, _, hfs, zhu _ _ hpow hh m, ⟨m, rfl, fun q hq => (m2 q (Nat.zero_le _) hq).1⟩, (fun e => by cases e), fun _ => h1⟩
   ·subst q3
    exact ⟨_, _, hfs, zhu _ _ hpow hh q, ⟨q, rfl, fun q' hq => (m2 q' (Nat.zero_le _) (by lia)).1⟩, (fun _ => q4), (fun e => by cases e)⟩
  obtain ⟨sl, wd, f1, f2, f3, f4, f5⟩ := key
  refine ⟨sl, wd, ?_, f2, f3, f4, f5⟩
  have hs : t.slot sl = .empty \/ t.slot sl = .dummy := by cases wd with
   | true => exact .inr (f4 rfl)
   | false => exact .inl (f5 rfl)
  obtain ⟨g1, g2, g3, g4, g5, _⟩ := zua t es hh x sl ok hs f2 f3
  have hfit : (t.put sl).1.fits (SetTable.insertAt es (t.put sl).2 (hh, x)).size = true := by
   simp only [SetTable.fits, Bool.and_eq_true, beq_iff_eq, decide_eq_true_eq]
   refine ⟨g3, ?_⟩
   have := ok.room
   rw [g2]; lia
  unfold layNew
  rw [f1]
  show (_, (t.put sl).1.orStandIn _, wd, !(t.put sl).1.fits _) = _
  unfold SetTable.orStandIn
  have hfit' : (t.put sl).1.fits (SetTable.insertAt es (SetTable.below t.place sl) (hh, x)).size = true := hfit
  rw [hfit']; rfl
 ·lia
theorem zlt (t : SetTable) (es : Array (Int × Value)) (wanted : Nat) (h1 : 2 * es.size <= wanted) (h2 : wanted <= 4095) :
  ∃ t' es', relayAll t es wanted = (es', t', false) /\ t'.led = t.led /\ t'.plain = t.plain /\ es'.toList.Perm es.toList /\ SOk t' es'.toList := by
 obtain ⟨t', order, e1, e2, e3, e4, e5, e6, e7, e8, e9⟩ := zk0 t es wanted h1 h2
 refine ⟨t', _, ?_, e4, e5, e7, e9⟩
 unfold relayAll
 rw [e1]
 dsimp only
 have c1 : coversAll order es.size = true := List.isPerm_iff.mpr e6
 have c2 : t'.fits (order.filterMap (es[·]?)).size = true := by
  simp only [SetTable.fits, Bool.and_eq_true, beq_iff_eq, decide_eq_true_eq]
  exact ⟨by rw [e9.size, Array.length_toList], by have := e9.room; lia⟩
 rw [c1, c2]; rfl
end
section
variable {prog : Program} {w : World} {A : Around} {E : Value -> Shared -> Prop} {s : Shared}
theorem zsg {t : SetTable} {es : List (Int × Value)} (ok : SOk t es) (hh : Int) : ∃ N, 0 <= N /\ N < 0 + 100000 /\ N < 10 * SetTable.turns t.mask /\ t.slot (posM t.mask hh N) = .empty := by
 obtain ⟨kp, hpow⟩ := ok.ok.pow
 obtain ⟨e, he, hemp⟩ := zhh ok.ok (by have := ok.room; lia)
 obtain ⟨N, hN, hp⟩ := zql t.mask _ hpow hh e he
 have hb := ok.ok.big
 refine ⟨N, Nat.zero_le _, ?_, hN, by rw [hp]; exact hemp⟩
 unfold SetTable.turns at hN; lia
theorem znp {es : Array (Int × Value)} {k : Key} {x : Value} {ks : List SK} (hx : SK.is prog w s.heap (.one k) x) (ent : Es prog w s.heap ks es.toList) (hf : ∀ k ∈ ks, k.flat = true) (hs : ks.length <= 1000) : byScan x es = true :=
 byScan_of (knd:=zav prog w) (zkq hx) (by have := ent.length; simp at this; unfold scanBound; lia) (ent.flats hf)
theorem zlo {es : Array (Int × Value)} {a : Addr} : byScan (.ref a) es = false := rfl
theorem zwl {k : SK} {x : Value} {Q : Bool -> Shared -> Prop} (hx : k.is prog w s.heap x) (q : ∀ b, Q b s) : wpAny (model prog w) A (hashByValue 8 x) Q E s := by
 cases k with
 | one k => rw [hashByValue_scannable 8 (zkq hx)]; exact wpAny_pure (q _)
 | many kk =>
  obtain ⟨a, rfl, hk⟩ := hx
  have hT := hk.typeIs
  obtain ⟨o, its, n, ho, _, hd, hi⟩ := hk
  unfold hashByValue
  refine wpAny_bind (wpAny_specialOf hT F.slot_tuple_hash.lookup ?_)
  show wpAny _ _ (seqItems? (.ref a) >>= _) Q E s
  refine wpAny_bind (wpAny_seqItems ho hd ?_)
  show wpAny _ _ (forIn its _ _ >>= _) Q E s
  refine wpAny_bind ?_
  rw [<- Array.forIn_toList]
  refine wpAny_forIn_list _ (fun rest r s' => r.1 = none /\ s' = s /\ ∀ v ∈ rest, carriedByValue v = true /\ v.scannable = true) _ ?_ ?_ _ _ ⟨rfl, rfl, ?_⟩
  ·rintro v rest r s' ⟨hr, rfl, hall⟩
   have hv := hall v List.mem_cons_self
   show wpAny _ _ (hashByValue 7 v >>= _) _ _ _
   rw [hashByValue_scannable 7 hv.2]
   refine wpAny_bind (wpAny_pure ?_)
   cases plainKind v with
   | true =>
    simp only [Bool.not_true, Bool.false_eq_true, if_false]
    exact wpAny_pure ⟨rfl, rfl, fun u hu' => hall u (List.mem_cons_of_mem _ hu')⟩
   | false =>
    simp only [Bool.not_false, if_true]
    exact wpAny_pure (wpAny_pure (q false))
  ·rintro ⟨r1, r2⟩ s' ⟨hr, rfl, _⟩
   simp only at hr
   subst hr
   exact wpAny_pure (q true)
  ·intro v hv
   refine ⟨hi.byValue v hv, ?_⟩
   clear hd
   generalize its.toList = vs at hi hv
   induction hi with
   | nil => cases hv
   | cons h1 _ ih =>
    rcases List.mem_cons.mp hv with rfl | hv
    ·rcases zay h1 with ⟨j, t, _, e2⟩ | ⟨y, t, _, e2⟩ <;> rw [e2] <;> rfl
    ·exact ih hv
end
end L2
namespace L2
open PySem PySem.Spec PyProof.Rows L2T
section
variable {prog : Program} {w : World} {h : Heap}
noncomputable def za1 (b : Bool) (t : SetTable) : SetTable := if b then t else { t with plain := false }
theorem zdi (b : Bool) (t : SetTable) : (za1 b t).mask = t.mask := by cases b <;> rfl
theorem zet (b : Bool) (t : SetTable) : (za1 b t).place = t.place := by cases b <;> rfl
theorem zgz (b : Bool) (t : SetTable) : (za1 b t).dummies = t.dummies := by cases b <;> rfl
theorem zla (b : Bool) (t : SetTable) : (za1 b t).led = t.led := by cases b <;> rfl
theorem zfe (b : Bool) (t : SetTable) : (za1 b t).fill = t.fill := by cases b <;> rfl
theorem zkt {o : Obj} {ks : List SK} {es : Array (Int × Value)} {ep : Nat} {t : SetTable} {x : Value} {k : SK} {sl : Nat} {wd : Bool} (S : SetO prog w h o ks es ep t) (hx : k.is prog w h x)
  (h1 : sl <= t.mask) (h2 : zie t (k.hash prog w) sl) (h3 : wd = true -> t.slot sl = .dummy) (h4 : wd = false -> t.slot sl = .empty) (bv : Bool) :
  (SetTable.insertAt es (t.put sl).2 (k.hash prog w, x)).size = es.size + 1 /\ (za1 bv (t.put sl).1).fits (SetTable.insertAt es (t.put sl).2 (k.hash prog w, x)).size = true /\ (za1 bv (t.put sl).1).led = led0 w /\
  (SetTable.insertAt es (t.put sl).2 (k.hash prog w, x)).toList.Perm ((k.hash prog w, x) :: es.toList) /\ (∃ k1, k1.Perm (k :: ks) /\ Es prog w h k1 (SetTable.insertAt es (t.put sl).2 (k.hash prog w, x)).toList) /\
  ((wd = true \/ (za1 bv (t.put sl).1).tooFull = false) -> SOk (za1 bv (t.put sl).1) (SetTable.insertAt es (t.put sl).2 (k.hash prog w, x)).toList) := by
 have hs : t.slot sl = .empty \/ t.slot sl = .dummy := by cases wd with
  | true => exact .inr (h3 rfl)
  | false => exact .inl (h4 rfl)
 obtain ⟨g1, g2, g3, g4, g5, g6, g7, g8, g9⟩ := zua t es (k.hash prog w) x sl S.tab hs h1 h2
 have hroom := S.tab.room
 have hsz : (SetTable.insertAt es (t.put sl).2 (k.hash prog w, x)).size = es.size + 1 := by
  have := g7.length_eq; simpa using this
 refine ⟨hsz, ?_, ?_, g7, ?_, ?_⟩
 ·simp only [SetTable.fits, Bool.and_eq_true, beq_iff_eq, decide_eq_true_eq]
  rw [zet, zfe, zdi]
  exact ⟨g3, by rw [g2]; lia⟩
 ·rw [zla, g8]; exact S.led
 ·exact (Es.cons (e:=(k.hash prog w, x)) rfl hx S.ent).perm g7
 ·intro hc
  refine zo5 (t:=(t.put sl).1) ⟨g1, ?_, by rw [g3, Array.length_toList], g4⟩ (zdi ..) (zet ..) (zgz ..)
  rcases hc with hc | hc
  ·rw [g6 (h3 hc), g2]; exact hroom
  ·unfold SetTable.tooFull at hc
   rw [zfe, zdi] at hc
   simpa using hc
theorem SetO.newk {o : Obj} {ks : List SK} {es : Array (Int × Value)} {ep : Nat} {t : SetTable} (S : SetO prog w h o ks es ep t) {k : SK} (hk : ∀ k' ∈ ks, k'.flat = k.flat) (hn : k ∉ ks) (hr : ks.length + 1 <= 1000)
  {h' : Heap} {k1 : List SK} {e1 : Array (Int × Value)} {ep1 : Nat} {t1 : SetTable} (p : k1.Perm (k :: ks)) (ok : SOk t1 e1.toList) (en : Es prog w h' k1 e1.toList) (hl : t1.led = led0 w) :
  SetO prog w h' { o with data := .set e1 ep1 t1 } k1 e1 ep1 t1 :=
 ⟨S.ex, rfl, ok, en, p.nodup_iff.mpr (List.nodup_cons.mpr ⟨hn, S.nod⟩), by rw [p.length_eq]; simpa using hr, hl, k.flat, fun k' hk' => by
  rcases List.mem_cons.mp (p.mem_iff.mp hk') with rfl | e
  ·rfl
  ·exact hk k' e⟩
end
section
variable {prog : Program} {w : World} {A : Around} {E : Value -> Shared -> Prop} {s : Shared}
theorem zbo {n : Nat} (h : n <= 1001) : n <= sizeLine := by rw [sizeLine_eq]; lia
theorem zhc {n : Nat} (h : n <= 4095) : ¬ SetTable.sizeAbove n > sizeLine := by
 obtain ⟨_, _, _, _, h5⟩ := zfi n h
 rw [sizeLine_eq]; lia
theorem zcq {n : Nat} (h : n <= 1000) : 2 * n <= SetTable.grown n /\ SetTable.grown n <= 4095 := by
 unfold SetTable.grown
 rw [if_neg (by lia)]; lia
theorem zyo {a : Addr} {o : Obj} {ks : List SK} {es : Array (Int × Value)} {ep : Nat} {t : SetTable} {x : Value} {k : SK} {Q : Bool -> Shared -> Prop} (hu : A.units < cLine)
  (ho : s.heap.get? a = some o) (S : SetO prog w s.heap o ks es ep t) (hk : ∀ k' ∈ ks, k'.flat = k.flat) (hx : k.is prog w s.heap x) (hr : ks.length + 1 <= 1000)
  (q : ∀ h' k1 e1, Heap.SameBut a s.heap h' -> SetE prog w h' a k1 e1 -> k1.Perm (if k ∈ ks then ks else k :: ks) -> (∀ e ∈ e1.toList, e ∈ es.toList \/ e = (k.hash prog w, x)) -> Q (decide (k ∉ ks)) { s with heap := h' }) :
  wpAny (model prog w) A (setAddHashed a x (k.hash prog w)) Q E s := by
 have hlen : es.size = ks.length := by have := S.ent.length; simp at this; lia
 have old : k ∈ ks -> Q false s := fun hin => by
  have := q s.heap ks es (Heap.SameBut.refl _ _) ⟨o, ep, t, ho, S⟩ (by rw [if_pos hin]) (fun e he => .inl he)
  rw [decide_eq_false (by simpa using hin)] at this
  exact this
 have new : k ∉ ks -> ∀ h' e1 ep1 t1 k1, Heap.SameBut a s.heap h' -> h'.get? a = some { o with data := .set e1 ep1 t1 } -> k1.Perm (k :: ks) -> SOk t1 e1.toList -> Es prog w s.heap k1 e1.toList -> t1.led = led0 w -> e1.toList.Perm ((k.hash prog w, x) :: es.toList) -> Q true { s with heap := h' } := fun hn h' e1 ep1 t1 k1 hs hg p ok en hl hp => by
  have hK : ziu s.heap h' := zem (es:=es) (ep:=ep) (t:=t) ho S.ex hs
  have := q h' k1 e1 hs ⟨_, ep1, t1, hg, S.newk hk hn hr p ok (en.mono hK) hl⟩ (by rw [if_neg hn]; exact p) (fun e he => by
   rcases List.mem_cons.mp (hp.mem_iff.mp he) with z | z
   ·exact .inr z
   ·exact .inl z)
  rw [decide_eq_true hn] at this
  exact this
 unfold setAddHashed setAddHashedIn
 refine wpAny_holding (wpAny_bind (zjc (M:=model prog w) ho S ?_))
 dsimp only
 cases k with
 | one k =>
  rw [znp hx S.ent hk S.small, if_pos rfl]
  unfold setAddByScan
  refine wpAny_bind (wpAny_bind (wpAny_rule ?_))
  refine wpAny_bind (wpAny_setScan_of (knd:=zav prog w) hx ho S.data S.fits (S.ent.flats hk) ?_)
  obtain ⟨i1, i2⟩ := S.ent.idx hk k
  cases hi : es.toList.findIdx? (fun e => (zav prog w).is k e.2) with
  | some j => exact wpAny_pure (wpAny_pure (old (List.mem_of_getElem? (i1 j hi))))
  | none =>
   have hn := i2 hi
   obtain ⟨sl, wd, f1, f2, f3, f4, f5⟩ := zp5 S.tab (SK.hash prog w (.one k)) x
   dsimp only
   rw [f1]
   refine wpAny_bind (wpAny_pure (a:=()) ?_)
   dsimp only
   have fin : ∀ (gw : Bool -> Sem Unit) (hgw : ∀ (s : Shared) (Q : Unit -> Shared -> Prop), Q () s -> wpAny (model prog w) A (gw false) Q E s) (bv : Bool), wpAny (model prog w) A (do
     storeSet a (SetTable.insertAt es (t.put sl).2 (SK.hash prog w (.one k), x)) (za1 bv (t.put sl).1)
     if (!wd && (za1 bv (t.put sl).1).tooFull) = true then do
      gw (relayAll (za1 bv (t.put sl).1) (SetTable.insertAt es (t.put sl).2 (SK.hash prog w (.one k), x)) (SetTable.grown (SetTable.insertAt es (t.put sl).2 (SK.hash prog w (.one k), x)).size)).2.2
      storeSet a (relayAll (za1 bv (t.put sl).1) (SetTable.insertAt es (t.put sl).2 (SK.hash prog w (.one k), x)) (SetTable.grown (SetTable.insertAt es (t.put sl).2 (SK.hash prog w (.one k), x)).size)).1
       (relayAll (za1 bv (t.put sl).1) (SetTable.insertAt es (t.put sl).2 (SK.hash prog w (.one k), x)) (SetTable.grown (SetTable.insertAt es (t.put sl).2 (SK.hash prog w (.one k), x)).size)).2.1
      pure (some true)
     else pure (some true)) (fun r s' => wpAny (model prog w) A (match r with | some added => pure added | none => setAddHashedIn a x (SK.hash prog w (.one k)) 99999) Q E s') E s := by
    intro gw hgw bv
    obtain ⟨p1, p2, p3, p7, ⟨k1, p4, p5⟩, p6⟩ := zkt (bv:=bv) S (k:=.one k) hx f2 f3 f4 f5
    refine wpAny_bind (wpAny_storeSet_of ho S.data ?_ (zbo (by lia)))
    have g1 := zh6 ho S.data (SetTable.insertAt es (t.put sl).2 (SK.hash prog w (.one k), x)) (za1 bv (t.put sl).1)
    have sb1 := Heap.SameBut.update s.heap a (Obj.putSet (SetTable.insertAt es (t.put sl).2 (SK.hash prog w (.one k), x)) (za1 bv (t.put sl).1))
    by_cases hc : (!wd && (za1 bv (t.put sl).1).tooFull) = true
    ·rw [if_pos hc]
     obtain ⟨t2, e2, r1, r2, _, r4, r5⟩ := zlt (za1 bv (t.put sl).1) (SetTable.insertAt es (t.put sl).2 (SK.hash prog w (.one k), x)) (SetTable.grown (SetTable.insertAt es (t.put sl).2 (SK.hash prog w (.one k), x)).size)
      (zcq (by lia)).1 (zcq (by lia)).2
     rw [r1]
     refine wpAny_bind (hgw _ _ ?_)
     have z2 : e2.size = es.size + 1 := by rw [<- p1]; have := r4.length_eq; simpa using this
     refine wpAny_bind (wpAny_storeSet_of g1 rfl ?_ (zbo (by show e2.size <= 1001; lia)))
     obtain ⟨k2, q1, q2⟩ := p5.perm r4
     refine wpAny_pure (wpAny_pure (new hn _ e2 _ t2 k2 (sb1.trans (Heap.SameBut.update _ a _)) (zh6 g1 rfl e2 t2) (q1.trans p4) r5 q2 (by rw [r2]; exact p3) (r4.trans p7)))
    ·rw [if_neg hc]
     refine wpAny_pure (wpAny_pure (new hn _ _ _ _ k1 sb1 g1 p4 (p6 ?_) p5 p3 p7))
     cases wd with
     | true => exact .inl rfl
     | false => exact .inr (by simpa using hc)
   split
   ·refine wpAny_bind (zwl (k:=.one k) hx fun b => ?_)
    exact fin _ (fun _ _ q => wpAny_pure q) b
   ·exact wpAny_bind (wpAny_pure (fin _ (fun _ _ q => wpAny_pure q) true))
 | many kk =>
  obtain ⟨ax, rfl, hax⟩ := hx
  rw [zlo]
  simp only [Bool.false_eq_true, if_false]
  unfold setSearch
  refine wpAny_bind (zsj hu ho S hk ⟨ax, rfl, hax⟩ (fun i hi => ?_) (fun hn sl wd f2 f3 f4 f5 => ?_) 100000 0 none (fun _ => rfl) (fun p hp => by cases hp) (fun q hq => by lia) (zsg S.tab _))
  ·exact wpAny_pure (old (List.mem_of_getElem? hi))
  ·dsimp only
   refine wpAny_bind (zjc (M:=model prog w) ho S ?_)
   dsimp only
   have fin : ∀ bv : Bool, wpAny (model prog w) A (do
     storeSet a (SetTable.insertAt es (t.put sl).2 (SK.hash prog w (.many kk), .ref ax)) (za1 bv (t.put sl).1)
     if (!wd && (za1 bv (t.put sl).1).tooFull) = true then do
      setRelay a (SetTable.grown (es.size + 1))
      pure true
     else pure true) Q E s := by
    intro bv
    obtain ⟨p1, p2, p3, p7, ⟨k1, p4, p5⟩, p6⟩ := zkt (bv:=bv) S (k:=.many kk) ⟨ax, rfl, hax⟩ f2 f3 f4 f5
    refine wpAny_bind (wpAny_storeSet_of ho S.data ?_ (zbo (by lia)))
    have g1 := zh6 ho S.data (SetTable.insertAt es (t.put sl).2 (SK.hash prog w (.many kk), .ref ax)) (za1 bv (t.put sl).1)
    have sb1 := Heap.SameBut.update s.heap a (Obj.putSet (SetTable.insertAt es (t.put sl).2 (SK.hash prog w (.many kk), .ref ax)) (za1 bv (t.put sl).1))
    by_cases hc : (!wd && (za1 bv (t.put sl).1).tooFull) = true
    ·rw [if_pos hc]
     obtain ⟨t2, order, r1, _, _, r2, _, _, r4, r6, r5⟩ := zk0 (za1 bv (t.put sl).1) (SetTable.insertAt es (t.put sl).2 (SK.hash prog w (.many kk), .ref ax)) (SetTable.grown (es.size + 1))
      (by rw [p1]; exact (zcq (by lia)).1) (zcq (by lia)).2
     unfold setRelay
     refine wpAny_bind (wpAny_bind (wpAny_setState_of g1 rfl p2 ?_))
     dsimp only
     rw [if_neg (zhc (zcq (by lia)).2)]
     rw [r1]
     refine wpAny_bind (wpAny_ite_split (fun h => absurd h (by rw [r6]; simp)) (fun _ => wpAny_pure ?_))
     dsimp only
     refine wpAny_storeSet_of g1 rfl ?_ (zbo (by rw [r6, p1]; lia))
     obtain ⟨k2, q1, q2⟩ := p5.perm r4
     exact wpAny_pure (new hn _ _ _ t2 k2 (sb1.trans (Heap.SameBut.update _ a _)) (zh6 g1 rfl _ t2) (q1.trans p4) r5 q2 (by rw [r2]; exact p3) (r4.trans p7))
    ·rw [if_neg hc]
     refine wpAny_pure (new hn _ _ _ _ k1 sb1 g1 p4 (p6 ?_) p5 p3 p7)
     cases wd with
     | true => exact .inl rfl
     | false => exact .inr (by simpa using hc)
   split
   ·refine wpAny_bind (zwl (k:=.many kk) ⟨ax, rfl, hax⟩ fun b => ?_)
    exact fin b
   ·exact wpAny_bind (wpAny_pure (fin true))
end
end L2
namespace L2
open PySem PySem.Spec PyProof.Rows L2T
theorem zcb : Slot "set_iterator" "__next__" "set_iterator.__next__" :=
 .of (owner:="set_iterator") (n:="__next__") (by rw [typeLookup_type, builtinLookup_eq_fast]; kernel_rfl) (by decide +kernel) (by decide +kernel)
  (by decide +kernel) (by first | exact .inl (by decide +kernel) | exact .inr (by decide +kernel)) (by rw [isSubtype_type]; kernel_rfl)
theorem zh4 : entryFor table "set_iterator.__next__" = some Builtin.«set_iterator.__next__» := entryFor_of_tree (by kernel_rfl)
theorem znc : Manifest.owners.lookup (String.ofList ['r', 'o', 't', 'a', 'r', 'e', 't', 'i', '_', 't', 'e', 's'].reverse) = some Manifest.sig_set_iterator := by kernel_rfl
theorem zkn (a : Value) : argsOk "set_iterator.__next__" ⟨[a], []⟩ := by
 unfold argsOk
 rw [signature?_of (id:="set_iterator.__next__") (n:=['_', '_', 't', 'x', 'e', 'n', '_', '_']) (o:=['r', 'o', 't', 'a', 'r', 'e', 't', 'i', '_', 't', 'e', 's']) (by kernel_rfl) znc]; kernel_rfl
theorem zff : Slot "set_iterator" "__iter__" "set_iterator.__iter__" :=
 .of (owner:="set_iterator") (n:="__iter__") (by rw [typeLookup_type, builtinLookup_eq_fast]; kernel_rfl) (by decide +kernel) (by decide +kernel)
  (by decide +kernel) (by first | exact .inl (by decide +kernel) | exact .inr (by decide +kernel)) (by rw [isSubtype_type]; kernel_rfl)
theorem zit : entryFor table "set_iterator.__iter__" = some Builtin.«dict_keyiterator.__iter__» :=
 entryFor_alias (id':="dict_keyiterator.__iter__") (by kernel_rfl) rfl (by decide +kernel) (by kernel_rfl)
theorem zjn (a : Value) : argsOk "set_iterator.__iter__" ⟨[a], []⟩ := by
 unfold argsOk
 rw [signature?_of (id:="set_iterator.__iter__") (n:=['_', '_', 'r', 'e', 't', 'i', '_', '_']) (o:=['r', 'o', 't', 'a', 'r', 'e', 't', 'i', '_', 't', 'e', 's']) (by kernel_rfl) znc]; kernel_rfl
theorem zik : entryFor table "set.__iter__" = some Builtin.«frozenset.__iter__» :=
 entryFor_alias (id':="frozenset.__iter__") (by kernel_rfl) rfl (by decide +kernel) (by kernel_rfl)
noncomputable def zck (w : World) : Bool := w.params.followText "set-order"
section
variable {prog : Program} {w : World} {A : Around} {E : Value -> Shared -> Prop} {s : Shared}
theorem zhk {α : Type} {l : List α} {i : Nat} (h : i < l.length) : (l[i] :: l.eraseIdx i).Perm l := by
 rw [List.eraseIdx_eq_take_drop_succ]
 have e : (l.take i ++ l[i] :: l.drop (i + 1)).Perm (l[i] :: (l.take i ++ l.drop (i + 1))) := List.perm_middle
 rw [List.getElem_cons_drop, List.take_append_drop] at e
 exact e.symm
theorem zs9 {src : Source} {n : Nat} {Q : Nat -> Shared -> Prop} (hn : n ≠ 0) (q : ∀ i d, i < n -> Q i { s with drawn := d }) : wpAny (model prog w) A (choose src n) Q E s :=
 fun _ _ _ => ⟨hn, q _ _ (Nat.mod_lt _ (Nat.pos_of_ne_zero hn))⟩
theorem zxw {α : Type} : ∀ (n : Nat) (xs : List α) (s : Shared) (Q : List α -> Shared -> Prop), xs.length <= n -> (∀ l d, l.Perm xs -> Q l { s with drawn := d }) -> wpAny (model prog w) A (drawOrder n xs) Q E s := by
 intro n
 induction n with
 | zero =>
  intro xs s Q hl q
  have : xs = [] := List.eq_nil_of_length_eq_zero (by lia)
  subst this
  exact wpAny_pure (q [] s.drawn (.refl _))
 | succ n ih =>
  intro xs s Q hl q
  cases xs with
  | nil => exact wpAny_pure (q [] s.drawn (.refl _))
  | cons x xs =>
   unfold drawOrder
   refine wpAny_bind (zs9 (by simp) fun i d hi => ?_)
   rw [List.getElem?_eq_getElem hi]
   dsimp only
   refine wpAny_bind (ih _ _ _ ?_ fun l d' hp => ?_)
   ·rw [List.length_eraseIdx_of_lt hi]; simp at hl ⊢; omega
   ·refine wpAny_pure (q _ d' ?_)
    exact (hp.cons _).trans (zhk hi)
theorem zvb {α : Type} (next : Nat -> Nat) : ∀ (fuel k : Nat) (left : List α) (out : Array α), left.length <= fuel -> (pickOrder.go next fuel k left out).toList.Perm (out.toList ++ left) := by
 intro fuel
 induction fuel with
 | zero =>
  intro k left out hl
  have : left = [] := List.eq_nil_of_length_eq_zero (by lia)
  subst this
  unfold pickOrder.go
  simp
 | succ fuel ih =>
  intro k left out hl
  unfold pickOrder.go
  cases left with
  | nil => simp
  | cons x l =>
   have hi : next k % (x :: l).length < (x :: l).length := Nat.mod_lt _ (by simp)
   rw [List.getElem?_eq_getElem hi]
   dsimp only
   refine (ih _ _ _ (by rw [List.length_eraseIdx_of_lt hi]; lia)).trans ?_
   rw [Array.toList_push, List.append_assoc]
   exact List.Perm.append_left _ (zhk hi)
theorem zor {α : Type} (next : Nat -> Nat) (xs : Array α) : (pickOrder next xs).toList.Perm xs.toList := by
 unfold pickOrder
 exact (zvb next xs.size 0 xs.toList #[] (by simp)).trans (by simp)
noncomputable def zfj (w : World) (a : Addr) (es : Array (Int × Value)) (ep : Nat) (t : SetTable) (slot given : Nat) : Option (Value × Nat) :=
 if zck w then ((pickOrder (w.params.setOrder a ep) es)[given]?).map fun e => (e.2, slot) else
  match es[SetTable.below t.place slot]?, t.place[SetTable.below t.place slot]? with
  | some (_, x), some j => some (x, j + 1)
  | _, _ => none
structure SetL (w : World) (o : Obj) (es : Array (Int × Value)) (ep : Nat) (t : SetTable) : Prop where
 data : o.data = .set es ep t
 tab : SOk t es.toList
 led : t.led = led0 w
theorem SetO.lite {o : Obj} {ks : List SK} {h : Heap} {es : Array (Int × Value)} {ep : Nat} {t : SetTable} (S : SetO prog w h o ks es ep t) : SetL w o es ep t := ⟨S.data, S.tab, S.led⟩
theorem SetL.fits {o : Obj} {es : Array (Int × Value)} {ep : Nat} {t : SetTable} (S : SetL w o es ep t) : t.fits es.size = true := by
 have h1 := S.tab.size
 have h2 := S.tab.room
 simp only [SetTable.fits, Bool.and_eq_true, beq_iff_eq, decide_eq_true_eq]
 exact ⟨by simpa using h1, by lia⟩
theorem zf0 {a : Addr} {o : Obj} {es : Array (Int × Value)} {ep : Nat} {t : SetTable} {Q : Array (Int × Value) × Nat × SetTable -> Shared -> Prop}
  (ho : s.heap.get? a = some o) (S : SetL w o es ep t) (q : Q (es, ep, t) s) : wpAny (model prog w) A (setState a) Q E s := wpAny_setState_of ho S.data S.fits q
theorem zta {o : Obj} {es : Array (Int × Value)} {ep : Nat} {t : SetTable} (S : SetL w o es ep t) : t.led = !zck w := S.led
theorem zky {a : Addr} {o : Obj} {es : Array (Int × Value)} {ep : Nat} {t : SetTable} {slot given : Nat} {Q : Option (Value × Nat) -> Shared -> Prop} (ho : s.heap.get? a = some o) (S : SetL w o es ep t)
  (hd : zck w = false -> (!t.plain && decide (es.size > 1)) = false) (q : Q (zfj w a es ep t slot given) s) : wpAny (model prog w) A (setNext a slot given ep) Q E s := by
 unfold setNext
 refine wpAny_bind (zf0 ho S ?_)
 dsimp only
 unfold setsByText
 refine wpAny_bind (wpAny_bind (wpAny_askSetting (wpAny_pure ?_)))
 show wpAny _ _ (if zck w = true then _ else _) Q E s
 unfold zfj at q
 cases hb : zck w with
 | true =>
  rw [hb] at q
  simp only [if_true, bne_self_eq_false, Bool.false_eq_true, if_false]
  unfold setWalk
  refine wpAny_bind (wpAny_bind (zf0 ho S ?_))
  dsimp only
  unfold setsByText
  refine wpAny_bind (wpAny_bind (wpAny_askSetting (wpAny_pure ?_)))
  show wpAny _ _ (if zck w = true then _ else _) _ E s
  rw [hb, if_pos rfl]
  refine wpAny_bind (wpAny_askSetting (wpAny_pure ?_))
  exact wpAny_pure q
 | false =>
  rw [hb] at q
  simp only [Bool.false_eq_true, if_false]
  refine wpAny_ite_split (fun h => absurd (show (!t.plain && decide (es.size > 1)) = true from h) (by rw [hd hb]; simp)) (fun _ => ?_)
  have hld := zta S
  rw [hb] at hld
  exact wpAny_bind (wpAny_ite_split (fun h => absurd h (by rw [hld]; simp)) (fun _ => wpAny_pure (wpAny_pure q)))
noncomputable def zds (h : Heap) (I a : Addr) (first : Value) (i n ep : Nat) : Prop := ∃ o, h.get? I = some o /\ o.cls = .type "set_iterator" /\ o.data = .fields #[first, .int i 0, .ref a, .int n 0, .int ep 0]
theorem zds.typeIs {I a : Addr} {first : Value} {i n ep : Nat} (x : zds s.heap I a first i n ep) : s.TypeIs (.ref I) "set_iterator" := let ⟨o, ho, hc, _⟩ := x; ⟨o, ho, hc⟩
theorem zds.at {h h' : Heap} {I a : Addr} {first : Value} {i n ep : Nat} (x : zds h I a first i n ep) (k : ∀ o, h.get? I = some o -> h'.get? I = some o) : zds h' I a first i n ep := let ⟨o, ho, r⟩ := x; ⟨o, k o ho, r⟩
theorem ztx {h1 : Heap} {Q : Option Value -> Shared -> Prop} {P : PySem.Fin -> Shared -> Prop} (hh : A.handled = none) (q : ∀ h', (∀ b o, h1.get? b = some o -> h'.get? b = some o) -> Q none { s with heap := h' }) :
  wpAny (model prog w) A.in1 (do raiseNew (<- newExc (.type "StopIteration") [])) P (fun e s' => wpAny (model prog w) A (do if <- isInstance e (.type "StopIteration") then pure none else throw e) Q E s') { s with heap := h1 } := by
 refine wpAny_bind ?_
 simp only [newExc, newTuple]
 refine wpAny_bind (wpAny_newObj_type ?_ (by size_fits))
 refine wpAny_bind (m:=firstArgMember _ _) (wpAny_of_eq (a:=Value.none) (by first | rfl | (simp only [firstArgMember]; rfl)) ?_)
 refine wpAny_newObj_type ?_ (by size_fits)
 simp only [raiseNew]
 refine wpAny_bind (wpAny_handled ?_)
 rw [show A.in1.handled = none from hh]
 refine wpAny_bind (wpAny_pure (wpAny_throw ?_))
 refine wpAny_bind (wpAny_isInstance (T:="StopIteration") (b:=true) ⟨_, Heap.get?_push_size _ rfl, rfl⟩ isSubtype_stop ?_)
 exact wpAny_pure (q _ fun b o e => Heap.get?_push_of_some _ (Heap.get?_push_of_some _ e))
end
end L2
namespace L2
open PySem PySem.Spec PyProof.Rows L2T
section
variable {prog : Program} {w : World} {A : Around} {E : Value -> Shared -> Prop} {s : Shared}
theorem zee {I a : Addr} {first : Value} {i n ep : Nat} {Q : Option Value -> Shared -> Prop} (hit : zds s.heap I a first i n ep)
  (h : wpAny (model prog w) A.in1 (Builtin.«set_iterator.__next__» ⟨[.ref I], []⟩) (fun fin s' => ∃ r, fin = .done (.ret r) /\ Q (some r) s')
   (fun e s' => wpAny (model prog w) A (do if <- isInstance e (.type "StopIteration") then pure none else throw e) Q E s') s) : wpAny (model prog w) A (pyNext (.ref I)) Q E s := by
 unfold pyNext
 refine wpAny_bind (wpAny_attempt (wpAny_callSpecial?_slot (name:=Str.ofString "__next__") hit.typeIs zcb (wpAny_call_entry zcb hit.typeIs zh4 (wpAny_mono h ?_ ?_) (zkn _))))
 ·rintro fin s' ⟨r, rfl, q⟩
  exact ⟨r, rfl, wpAny_pure q⟩
 ·intro e s' q
  exact q
theorem zkd {I a : Addr} {o : Obj} {es : Array (Int × Value)} {ep : Nat} {t : SetTable} {slot i nx : Nat} {x : Value} {Q : Option Value -> Shared -> Prop} (hit : zds s.heap I a (.int slot 0) i es.size ep)
  (ho : s.heap.get? a = some o) (S : SetL w o es ep t) (hd : zck w = false -> (!t.plain && decide (es.size > 1)) = false) (hn : zfj w a es ep t slot i = some (x, nx))
  (q : ∀ h', zds h' I a (.int nx 0) (i + 1) es.size ep -> Heap.SameBut I s.heap h' -> Q (some x) { s with heap := h' }) : wpAny (model prog w) A (pyNext (.ref I)) Q E s := by
 refine zee hit ?_
 obtain ⟨oi, hoi, hc, hdi⟩ := id hit
 unfold Builtin.«set_iterator.__next__»
 refine wpAny_bind (wpAny_pure ?_)
 refine wpAny_bind (wpAny_fieldsOf hoi hdi ?_)
 dsimp only
 refine wpAny_bind (wpAny_setEntries_of ho S.data S.fits ?_)
 rw [if_neg (by simp)]
 refine wpAny_bind (zky ho S hd ?_)
 simp only [Int.toNat_natCast]
 rw [hn]
 dsimp only
 refine wpAny_bind (wpAny_setField hoi hdi (by simp) ?_)
 have g1 : (s.heap.update I (Obj.mapFields (·.setIfInBounds 0 (rawInt nx)))).get? I = some _ := Heap.get?_update_self _ hoi (Obj.isFreed_of_fields (Obj.data_mapFields hdi _))
 have d1 := Obj.data_mapFields hdi (·.setIfInBounds 0 (rawInt nx))
 refine wpAny_bind (wpAny_setField g1 d1 (by simp) ?_)
 refine wpAny_pure ⟨x, rfl, q _ ⟨_, Heap.get?_update_self _ g1 (Obj.isFreed_of_fields (Obj.data_mapFields d1 _)), ?_, ?_⟩ ((Heap.SameBut.update ..).trans (Heap.SameBut.update ..))⟩
 ·exact (Obj.cls_mapFields ..).trans ((Obj.cls_mapFields ..).trans hc)
 ·rw [Obj.data_mapFields d1]; simp [rawInt]
theorem zmi {I a : Addr} {o : Obj} {es : Array (Int × Value)} {ep : Nat} {t : SetTable} {slot i : Nat} {Q : Option Value -> Shared -> Prop} (hh : A.handled = none) (hit : zds s.heap I a (.int slot 0) i es.size ep)
  (ho : s.heap.get? a = some o) (S : SetL w o es ep t) (hd : zck w = false -> (!t.plain && decide (es.size > 1)) = false) (hn : zfj w a es ep t slot i = none)
  (q : ∀ h', (∀ b o, b ≠ I -> s.heap.get? b = some o -> h'.get? b = some o) -> Q none { s with heap := h' }) : wpAny (model prog w) A (pyNext (.ref I)) Q E s := by
 refine zee hit ?_
 obtain ⟨oi, hoi, hc, hdi⟩ := id hit
 unfold Builtin.«set_iterator.__next__»
 refine wpAny_bind (wpAny_pure ?_)
 refine wpAny_bind (wpAny_fieldsOf hoi hdi ?_)
 dsimp only
 refine wpAny_bind (wpAny_setEntries_of ho S.data S.fits ?_)
 rw [if_neg (by simp)]
 refine wpAny_bind (zky ho S hd ?_)
 simp only [Int.toNat_natCast]
 rw [hn]
 dsimp only
 refine wpAny_bind (wpAny_setField hoi hdi (by simp) ?_)
 exact ztx hh fun h' k => q h' fun b o hb e => k b o ((Heap.get?_update_other _ _ (Ne.symm hb)).trans e)
noncomputable def zh5 (h : Heap) (p : Addr) (pl : List Nat) : Prop := ∃ o n, h.get? p = some o /\ o.data = .seq (pl.map fun (i : Nat) => rawInt i).toArray n
theorem zn1 {I a p : Addr} {o : Obj} {es : Array (Int × Value)} {ep : Nat} {t : SetTable} {i : Nat} {pl : List Nat} {e : Int × Value} {j : Nat} {Q : Option Value -> Shared -> Prop} (hit : zds s.heap I a (.ref p) i es.size ep)
  (hp : zh5 s.heap p pl) (ho : s.heap.get? a = some o) (S : SetL w o es ep t) (hj : pl[i]? = some j) (he : es[j]? = some e)
  (q : ∀ h', zds h' I a (.ref p) (i + 1) es.size ep -> Heap.SameBut I s.heap h' -> Q (some e.2) { s with heap := h' }) : wpAny (model prog w) A (pyNext (.ref I)) Q E s := by
 refine zee hit ?_
 obtain ⟨oi, hoi, hc, hdi⟩ := id hit
 obtain ⟨op, np, hop, hdp⟩ := hp
 unfold Builtin.«set_iterator.__next__»
 refine wpAny_bind (wpAny_pure ?_)
 refine wpAny_bind (wpAny_fieldsOf hoi hdi ?_)
 dsimp only
 refine wpAny_bind (wpAny_setEntries_of ho S.data S.fits ?_)
 rw [if_neg (by simp)]
 refine wpAny_bind (wpAny_seqItems hop hdp ?_)
 dsimp only
 have hpl : (pl.map fun (i : Nat) => rawInt i).toArray[(i : Int).toNat]? = some (.int j 0) := by
  simp [hj, rawInt]
 rw [hpl]
 dsimp only
 unfold setNextDrawn
 refine wpAny_bind (wpAny_bind (zf0 ho S ?_))
 simp only [Int.toNat_natCast, bne_self_eq_false, Bool.false_eq_true, if_false, he]
 refine wpAny_pure ?_
 refine wpAny_bind (wpAny_setField hoi hdi (by simp) ?_)
 refine wpAny_pure ⟨e.2, rfl, q _ ⟨_, Heap.get?_update_self _ hoi (Obj.isFreed_of_fields (Obj.data_mapFields hdi _)), ?_, ?_⟩ (Heap.SameBut.update ..)⟩
 ·exact (Obj.cls_mapFields ..).trans hc
 ·rw [Obj.data_mapFields hdi]; simp [rawInt]
theorem zpn {I a p : Addr} {o : Obj} {es : Array (Int × Value)} {ep : Nat} {t : SetTable} {i : Nat} {pl : List Nat} {Q : Option Value -> Shared -> Prop} (hh : A.handled = none) (hit : zds s.heap I a (.ref p) i es.size ep)
  (hp : zh5 s.heap p pl) (ho : s.heap.get? a = some o) (S : SetL w o es ep t) (hj : pl[i]? = none)
  (q : ∀ h', (∀ b o, b ≠ I -> s.heap.get? b = some o -> h'.get? b = some o) -> Q none { s with heap := h' }) : wpAny (model prog w) A (pyNext (.ref I)) Q E s := by
 refine zee hit ?_
 obtain ⟨oi, hoi, hc, hdi⟩ := id hit
 obtain ⟨op, np, hop, hdp⟩ := hp
 unfold Builtin.«set_iterator.__next__»
 refine wpAny_bind (wpAny_pure ?_)
 refine wpAny_bind (wpAny_fieldsOf hoi hdi ?_)
 dsimp only
 refine wpAny_bind (wpAny_setEntries_of ho S.data S.fits ?_)
 rw [if_neg (by simp)]
 refine wpAny_bind (wpAny_seqItems hop hdp ?_)
 dsimp only
 have hpl : (pl.map fun (i : Nat) => rawInt i).toArray[(i : Int).toNat]? = none := by
  simp at hj; simp [hj]
 rw [hpl]
 dsimp only
 refine wpAny_bind (wpAny_setField hoi hdi (by simp) ?_)
 have g1 : (s.heap.update I (Obj.mapFields (·.setIfInBounds 0 (rawInt 0)))).get? I = some _ := Heap.get?_update_self _ hoi (Obj.isFreed_of_fields (Obj.data_mapFields hdi _))
 have d1 := Obj.data_mapFields hdi (·.setIfInBounds 0 (rawInt 0))
 refine wpAny_bind (wpAny_setField g1 d1 (by simp) ?_)
 exact ztx hh fun h' k => q h' fun b o hb e => k b o ((Heap.get?_update_other _ _ (Ne.symm hb)).trans ((Heap.get?_update_other _ _ (Ne.symm hb)).trans e))
theorem zs3 (xs : Array Nat) (hp : xs.toList.Pairwise (· < ·)) (j i : Nat) (hi : i <= xs.size) (h1 : ∀ k x, k < i -> xs[k]? = some x -> x < j) (h2 : ∀ k x, i <= k -> xs[k]? = some x -> j <= x) : SetTable.below xs j = i := by
 obtain ⟨b0, b1, b2⟩ := zd0 xs j hp
 rcases Nat.lt_trichotomy (SetTable.below xs j) i with c | c | c
 ·have hg : xs[SetTable.below xs j]? = some (xs[SetTable.below xs j]'(by lia)) := Array.getElem?_eq_getElem _
  have := h1 _ _ c hg
  have := b2 _ _ (Nat.le_refl _) hg
  lia
 ·exact c
 ·have hg : xs[i]? = some (xs[i]'(by lia)) := Array.getElem?_eq_getElem _
  have := h2 _ _ (Nat.le_refl _) hg
  have := b1 _ _ c hg
  lia
noncomputable def zec (t : SetTable) (i : Nat) : Nat := if i = 0 then 0 else t.place.getD (i - 1) 0 + 1
theorem zxp {a : Addr} {es : Array (Int × Value)} {ep : Nat} {t : SetTable} (ok : SOk t es.toList) (hb : zck w = false) (i : Nat) (hi : i <= es.size) :
  zfj w a es ep t (zec t i) i = (es[i]?).map fun e => (e.2, zec t (i + 1)) := by
 have hsz : t.place.size = es.size := by simpa using ok.size
 have hbel : SetTable.below t.place (zec t i) = i := by
  refine zs3 _ ok.ok.pl _ _ (by lia) (fun k x hk hx => ?_) (fun k x hk hx => ?_)
  ·unfold zec
   rw [if_neg (by lia)]
   have hl : i - 1 < t.place.size := by lia
   have hg : t.place[i - 1]? = some (t.place[i - 1]) := Array.getElem?_eq_getElem hl
   have e : t.place.getD (i - 1) 0 = t.place[i - 1] := by simp [Array.getD, hl]
   rw [e]
   rcases Nat.lt_or_ge k (i - 1) with c | c
   ·have := zir t.place ok.ok.pl k (i - 1) x _ c hx hg; lia
   ·have : k = i - 1 := by lia
    subst this; rw [hg] at hx; cases hx; lia
  ·unfold zec
   split
   ·lia
   ·have hl : i - 1 < t.place.size := by lia
    have hg : t.place[i - 1]? = some (t.place[i - 1]) := Array.getElem?_eq_getElem hl
    have e : t.place.getD (i - 1) 0 = t.place[i - 1] := by simp [Array.getD, hl]
    rw [e]
    have := zir t.place ok.ok.pl (i - 1) k _ x (by lia) hg hx; lia
 unfold zfj
 rw [hb, hbel]
 simp only [Bool.false_eq_true, if_false]
 by_cases hc : i < es.size
 ·have h1 : es[i]? = some es[i] := Array.getElem?_eq_getElem hc
  have h2 : t.place[i]? = some (t.place[i]'(by lia)) := Array.getElem?_eq_getElem _
  rw [h1, h2]
  show some (es[i].2, _) = some (es[i].2, zec t (i + 1))
  unfold zec
  rw [if_neg (by lia)]
  have e : t.place.getD (i + 1 - 1) 0 = t.place[i]'(by lia) := by
   have hl : i < t.place.size := by lia
   simp [Array.getD, hl]
  rw [e]
 ·have h1 : es[i]? = none := Array.getElem?_eq_none (by lia)
  rw [h1]; rfl
end
end L2
namespace L2
open PySem PySem.Spec PyProof.Rows L2T
noncomputable def zd3 (h h' : Heap) : Prop := ∀ b o, h.get? b = some o -> h'.get? b = some o
theorem zd3.T {h h' : Heap} (k : zd3 h h') : ziu h h' := fun b o _ e => k b o e
section
variable {prog : Program} {w : World} {A : Around} {E : Value -> Shared -> Prop} {s : Shared}
theorem zdj {I a : Addr} {first : Value} {i n ep : Nat} {Q : Value -> Shared -> Prop} (hit : zds s.heap I a first i n ep) (q : Q (.ref I) s) : wpAny (model prog w) A (pyIter (.ref I)) Q E s := by
 refine wpAny_pyIter_slot hit.typeIs zff (wpAny_call_entry zff hit.typeIs zit ?_ (zjn _))
 show wpAny _ _ (ret (.ref I)) _ _ s
 exact wpAny_pure ⟨_, rfl, "set_iterator", _, hit.typeIs, zcb.lookup, q⟩
noncomputable def zqi (prog : Program) (w : World) (A : Around) (I a : Addr) (fp : List Addr) (vs : List Value) (St : Nat -> Heap -> Prop) : Prop :=
 Walks prog w A I fp [I] vs.length (fun i v => vs[i]? = some v) St
theorem zyn {a I : Addr} {o : Obj} {es : Array (Int × Value)} {ep : Nat} {t : SetTable} (S : SetL w o es ep t) (hb : zck w = true) (hne : a ≠ I) (hh : A.handled = none) :
  zqi prog w A I a [I, a] ((pickOrder (w.params.setOrder a ep) es).toList.map (·.2)) (fun i h => zds h I a (.int (0 : Nat) 0) i es.size ep /\ h.get? a = some o) := by
 have hn : ∀ i, zfj w a es ep t 0 i = ((((pickOrder (w.params.setOrder a ep) es).toList.map (·.2))[i]?).map fun v => (v, 0)) := fun i => by
  unfold zfj
  rw [hb, if_pos rfl, List.getElem?_map, Array.getElem?_toList, Option.map_map]; rfl
 have hd : zck w = false -> (!t.plain && decide (es.size > 1)) = false := fun e => by rw [hb] at e; cases e
 refine ⟨fun b hb => by simp at hb; simp [hb], fun i h h' st k => ⟨st.1.at fun o e => k I (by simp) o e, k a (by simp) o st.2⟩, fun i s Q E hi st q => ?_, fun s Q E st q => ?_, fun i s Q E st q => zdj st.1 q⟩
 ·refine zkd st.1 st.2 S hd (x:=((pickOrder (w.params.setOrder a ep) es).toList.map (·.2))[i]) (nx:=0) (by rw [hn, List.getElem?_eq_getElem hi]; rfl) fun h' it' sb => ?_
  exact q _ h' s.toks (List.getElem?_eq_getElem hi) ⟨it', (sb.2 a hne).trans st.2⟩ fun b o hb e => (sb.2 b (by simpa using hb)).trans e
 ·refine zmi hh st.1 st.2 S hd (by rw [hn, List.getElem?_eq_none (Nat.le_refl _)]; rfl) fun h' k => q h' s.toks fun b o hb e => k b o (by simpa using hb) e
theorem zyp {a I : Addr} {o : Obj} {es : Array (Int × Value)} {ep : Nat} {t : SetTable} (S : SetL w o es ep t) (hb : zck w = false) (hd : (!t.plain && decide (es.size > 1)) = false) (hne : a ≠ I) (hh : A.handled = none) :
  zqi prog w A I a [I, a] (es.toList.map (·.2)) (fun i h => zds h I a (.int (zec t i) 0) i es.size ep /\ h.get? a = some o) := by
 have hl : (es.toList.map (·.2)).length = es.size := by simp
 refine ⟨fun b hb => by simp at hb; simp [hb], fun i h h' st k => ⟨st.1.at fun o e => k I (by simp) o e, k a (by simp) o st.2⟩, fun i s Q E hi st q => ?_, fun s Q E st q => ?_, fun i s Q E st q => zdj st.1 q⟩
 ·rw [hl] at hi
  have he : es[i]? = some es[i] := Array.getElem?_eq_getElem hi
  refine zkd st.1 st.2 S (fun _ => hd) (x:=es[i].2) (nx:=zec t (i + 1)) (by rw [zxp S.tab hb i (by lia), he]; rfl) fun h' it' sb => ?_
  exact q _ h' s.toks (by rw [List.getElem?_map, Array.getElem?_toList, he]; rfl) ⟨it', (sb.2 a hne).trans st.2⟩ fun b o hb e => (sb.2 b (by simpa using hb)).trans e
 ·rw [hl] at st
  refine zmi hh st.1 st.2 S (fun _ => hd) (by rw [zxp S.tab hb _ (Nat.le_refl _), Array.getElem?_eq_none (Nat.le_refl _)]; rfl) fun h' k => q h' s.toks fun b o hb e => k b o (by simpa using hb) e
theorem zyr {a I p : Addr} {o : Obj} {es : Array (Int × Value)} {ep : Nat} {t : SetTable} (S : SetL w o es ep t) {pl : List Nat} (hp : pl.Perm (List.range es.size)) (hne : a ≠ I) (hnp : p ≠ I) (hh : A.handled = none) :
  zqi prog w A I a [I, a, p] (pl.map fun j => (es.getD j (0, .none)).2) (fun i h => zds h I a (.ref p) i es.size ep /\ h.get? a = some o /\ zh5 h p pl) := by
 refine ⟨fun b hb => by simp at hb; simp [hb], fun i h h' st k => ⟨st.1.at fun o e => k I (by simp) o e, k a (by simp) o st.2.1, let ⟨op, n, e1, e2⟩ := st.2.2; ⟨op, n, k p (by simp) op e1, e2⟩⟩, fun i s Q E hi st q => ?_, fun s Q E st q => ?_, fun i s Q E st q => zdj st.1 q⟩
 ·rw [List.length_map] at hi
  have hj : pl[i]? = some pl[i] := List.getElem?_eq_getElem hi
  have hjl : pl[i] < es.size := List.mem_range.mp (hp.mem_iff.mp (List.getElem_mem hi))
  have he : es[pl[i]]? = some es[pl[i]] := Array.getElem?_eq_getElem hjl
  refine zn1 st.1 st.2.2 st.2.1 S hj he fun h' it' sb => ?_
  refine q _ h' s.toks ?_ ⟨it', (sb.2 a hne).trans st.2.1, ?_⟩ fun b o hb e => (sb.2 b (by simpa using hb)).trans e
  ·rw [List.getElem?_map, hj]
   show some (es.getD pl[i] (0, .none)).2 = _
   simp [Array.getD, hjl]
  ·obtain ⟨op, n, e1, e2⟩ := st.2.2
   exact ⟨op, n, (sb.2 p hnp).trans e1, e2⟩
 ·rw [List.length_map] at st
  refine zpn hh st.1 st.2.2 st.2.1 S (List.getElem?_eq_none (Nat.le_refl _)) fun h' k => q h' s.toks fun b o hb e => k b o (by simpa using hb) e
theorem zlx {es : Array (Int × Value)} {pl : List Nat} (hp : pl.Perm (List.range es.size)) : (pl.map fun j => (es.getD j (0, Value.none)).2).Perm (es.toList.map (·.2)) := by
 refine (hp.map _).trans ?_
 have : (List.range es.size).map (fun j => (es.getD j (0, Value.none)).2) = es.toList.map (·.2) := by
  refine List.ext_getElem? fun i => ?_
  rw [List.getElem?_map, List.getElem?_map]
  by_cases hi : i < es.size
  ·rw [List.getElem?_range hi, List.getElem?_eq_getElem (by simpa using hi)]; simp [Array.getD, hi]
  ·rw [List.getElem?_eq_none (by simpa using hi), List.getElem?_eq_none (by simpa using hi)]; rfl
 rw [this]
theorem zbp {h : Heap} {o : Obj} : zd3 h (h.push o) := fun b u e => Heap.get?_push_of_some _ e
theorem zx8 {a : Addr} {o : Obj} {ks : List SK} {es : Array (Int × Value)} {ep : Nat} {t : SetTable} {Q : Value -> Shared -> Prop} (ho : s.heap.get? a = some o) (S0 : SetO prog w s.heap o ks es ep t)
  (q : ∀ (h1 : Heap) (d : Drawn) (I : Addr) (fp : List Addr) (vs : List Value), (∀ A' : Around, A'.handled = none -> ∃ St, Walks prog w A' I fp [I] vs.length (fun i v => vs[i]? = some v) St /\ St 0 h1) -> vs.Perm (es.toList.map (·.2)) -> zd3 s.heap h1 -> s.heap.objs.size <= I -> I < h1.objs.size -> (∀ b ∈ fp, b = a \/ s.heap.objs.size <= b) ->
   Q (.ref I) { s with heap := h1, drawn := d }) : wpAny (model prog w) A (pyIter (.ref a)) Q E s := by
 have S := S0.lite
 have hT : s.TypeIs (.ref a) "set" := ⟨o, ho, S0.ex.1⟩
 have halt : a < s.heap.objs.size := Heap.lt_size ho
 refine wpAny_pyIter_slot hT F.slot_set_iter (wpAny_call_entry F.slot_set_iter hT zik ?_ (F.args_set_iter_1 _))
 unfold Builtin.«frozenset.__iter__»
 refine wpAny_bind (wpAny_pure ?_)
 unfold Builtin.Frozenset.sizeOf
 refine wpAny_bind (wpAny_bind (wpAny_setEntries_of ho S.data S.fits (wpAny_pure ?_)))
 unfold setDrawn
 refine wpAny_bind (wpAny_bind (zf0 ho S ?_))
 dsimp only
 unfold setsByText
 refine wpAny_bind (wpAny_bind (wpAny_askSetting (wpAny_pure ?_)))
 refine wpAny_pure ?_
 show wpAny _ _ (if (!zck w && (!t.plain && decide (es.size > 1))) = true then _ else _) _ _ s
 have hsm : es.size <= 1000 := by have := S0.small; have := S0.ent.length; simp at this; lia
 by_cases hc : (!zck w && (!t.plain && decide (es.size > 1))) = true
 ·rw [if_pos hc]
  refine wpAny_bind (zxw _ _ _ _ (by simp) fun pl d hp => ?_)
  unfold newTuple
  refine wpAny_bind (wpAny_newObj_type ?_ (by show (pl.map fun (i : Nat) => rawInt i).length <= sizeLine; rw [List.length_map, hp.length_eq, List.length_range]; exact zbo (by lia)))
  refine wpAny_bind (wpAny_setEpoch_of (Heap.get?_push_of_some _ ho) S.data S.fits ?_)
  unfold newFields
  refine wpAny_bind (wpAny_newObj_type (wpAny_pure ⟨_, rfl, "set_iterator", _, ⟨_, Heap.get?_push_size _ rfl, rfl⟩, zcb.lookup, ?_⟩))
  show Q (.ref (s.heap.push { cls := .type "tuple", data := .seq (pl.map fun (i : Nat) => rawInt i).toArray }).objs.size) _
  have g1 : (s.heap.push { cls := .type "tuple", data := .seq (pl.map fun (i : Nat) => rawInt i).toArray }).get? s.heap.objs.size = some { cls := .type "tuple", data := .seq (pl.map fun (i : Nat) => rawInt i).toArray } := Heap.get?_push_size _ rfl
  have k1 : zd3 s.heap (s.heap.push { cls := .type "tuple", data := .seq (pl.map fun (i : Nat) => rawInt i).toArray }) := zbp
  have z1 : (s.heap.push { cls := .type "tuple", data := .seq (pl.map fun (i : Nat) => rawInt i).toArray }).objs.size = s.heap.objs.size + 1 := Heap.size_push ..
  refine q _ d _ [(s.heap.push { cls := .type "tuple", data := .seq (pl.map fun (i : Nat) => rawInt i).toArray }).objs.size, a, s.heap.objs.size] _ (fun A' hh => ⟨_, zyr (p:=s.heap.objs.size) S hp (by rw [z1]; exact Nat.ne_of_lt (Nat.lt_succ_of_lt halt)) (by rw [z1]; exact Nat.ne_of_lt (Nat.lt_succ_self _)) hh,
   ⟨_, Heap.get?_push_size _ rfl, rfl, by simp [rawInt]⟩, zbp _ _ (k1 _ _ ho), ⟨_, 0, zbp _ _ g1, rfl⟩⟩) (zlx hp) (fun b u e => zbp _ _ (k1 _ _ e)) ?_ ?_ ?_
  ·rw [z1]; lia
  ·exact Nat.lt_of_lt_of_eq (Nat.lt_succ_self _) (Heap.size_push ..).symm
  ·intro b hb
   simp only [List.mem_cons, List.not_mem_nil, or_false] at hb
   rcases hb with rfl | rfl | rfl
   ·exact .inr (by rw [z1]; lia)
   ·exact .inl rfl
   ·exact .inr (Nat.le_refl _)
 ·rw [if_neg hc]
  refine wpAny_bind (wpAny_pure ?_)
  refine wpAny_bind (wpAny_setEpoch_of ho S.data S.fits ?_)
  unfold newFields
  refine wpAny_bind (wpAny_newObj_type (wpAny_pure ⟨_, rfl, "set_iterator", _, ⟨_, Heap.get?_push_size _ rfl, rfl⟩, zcb.lookup, ?_⟩))
  have it0 : zds (s.heap.push { cls := .type "set_iterator", data := .fields [rawInt 0, rawInt 0, Value.ref a, rawInt es.size, rawInt ep].toArray }) s.heap.objs.size a (.int (0 : Nat) 0) 0 es.size ep :=
   ⟨_, Heap.get?_push_size _ rfl, rfl, by simp [rawInt]⟩
  have hfp : ∀ b ∈ [s.heap.objs.size, a], b = a \/ s.heap.objs.size <= b := by
   intro b hb
   simp only [List.mem_cons, List.not_mem_nil, or_false] at hb
   rcases hb with rfl | rfl
   ·exact .inr (Nat.le_refl _)
   ·exact .inl rfl
  cases hb : zck w with
  | true =>
   exact q _ s.drawn _ [s.heap.objs.size, a] _ (fun A' hh => ⟨_, zyn S hb (Nat.ne_of_lt halt) hh, it0, zbp _ _ ho⟩) ((zor _ _).map _) zbp (Nat.le_refl _) (by rw [Heap.size_push]; exact Nat.lt_succ_self _) hfp
  | false =>
   rw [hb] at hc
   exact q _ s.drawn _ [s.heap.objs.size, a] _ (fun A' hh => ⟨_, zyp S hb (by simpa using hc) (Nat.ne_of_lt halt) hh, it0, zbp _ _ ho⟩) (.refl _) zbp (Nat.le_refl _) (by rw [Heap.size_push]; exact Nat.lt_succ_self _) hfp
theorem zok : typeLookup (.type "set") "__len__" = pure (some (.builtin "set.__len__")) := F.slot_set_len.lookup
theorem zye {a : Addr} {Q : Bool -> Shared -> Prop} (hT : s.TypeIs (.ref a) "set") (q : Q false s) : wpAny (model prog w) A (Builtin.List.listLengthHint (.ref a)) Q E s := by
 unfold Builtin.List.listLengthHint
 refine wpAny_bind (wpAny_specialOf hT zok ?_)
 generalize hid : ("set.__len__" : String) = id0
 wp_delta
 rw [show splitId id0 = some ("set", "__len__") from by subst hid; decide +kernel]
 subst hid
 refine wpAny_bind (wpAny_isInstance (T:="set") (b:=true) hT sub_set_self ?_)
 refine wpAny_ite_split (fun e => absurd e (by decide)) (fun _ => ?_)
 refine wpAny_ite_split (fun _ => ?_) (fun e => absurd (by decide +kernel) e)
 exact wpAny_bind (wpAny_typeOf hT (wpAny_pure q))
theorem zqv {a : Addr} {o : Obj} {ks : List SK} {es : Array (Int × Value)} {ep : Nat} {t : SetTable} {Q : List Value -> Shared -> Prop} (hh : A.handled = none) (ho : s.heap.get? a = some o) (S0 : SetO prog w s.heap o ks es ep t)
  (q : ∀ (vs : List Value) (h' : Heap) (d : Drawn) (tk : Nat), vs.Perm (es.toList.map (·.2)) -> zd3 s.heap h' -> s.heap.objs.size < h'.objs.size -> Q vs { s with heap := h', drawn := d, toks := tk }) : wpAny (model prog w) A (collect (.ref a)) Q E s := by
 have halt : a < s.heap.objs.size := Heap.lt_size ho
 unfold collect
 refine wpAny_bind (wpAny_runValue (codeAny_builtin F.entry_proto_collect ?_))
 rw [Around.under_plainId F.plain_proto_collect _]
 show wpAny _ A.in1 (newList [] >>= fun l => again (.builtin "list.__iadd__" ⟨[l, .ref a], []⟩)) _ _ s
 refine wpAny_bind (wpAny_newObj_type ?_)
 refine wpAny_pure ⟨plainId_quiet F.plain_list_iadd _, codeAny_builtin F.entry_list_iadd ?_⟩
 rw [Around.under_plainId F.plain_list_iadd _]
 generalize hN : s.heap.push { cls := .type "list", data := .seq ([] : List Value).toArray } = hL
 have hLg : hL.get? s.heap.objs.size = some { cls := .type "list", data := .seq ([] : List Value).toArray } := by rw [<- hN]; exact Heap.get?_push_size _ rfl
 have hLs : hL.objs.size = s.heap.objs.size + 1 := by rw [<- hN, Heap.size_push]
 have k0 : zd3 s.heap hL := by rw [<- hN]; exact zbp
 show wpAny _ A.in1 (Builtin.List.listExtendWith (.ref s.heap.objs.size) (.ref a) (.ref s.heap.objs.size)) _ _ _
 unfold Builtin.List.listExtendWith
 refine wpAny_bind (wpAny_typeOf (T:="set") ⟨o, k0 a o ho, S0.ex.1⟩ ?_)
 have h1 : Builtin.List.listSameRef (.ref s.heap.objs.size) (.ref a) = false := by
  simp only [Builtin.List.listSameRef, beq_eq_false_iff_ne]; exact Nat.ne_of_gt halt
 have h2 : (Value.type "set" == Value.type "list") = false := by decide
 have h3 : (Value.type "set" == Value.type "tuple") = false := by decide
 simp only [h1, h2, h3, Bool.or_false, Bool.false_eq_true, if_false]
 refine wpAny_bind (zx8 (s:={ s with heap := hL }) (k0 a o ho) (S0.mono k0.T) fun h1 d I fp vs hW hvs k1 hI1 hI2 hfp => ?_)
 refine wpAny_bind (wpAny_holding (zye ⟨o, k1 a o (k0 a o ho), S0.ex.1⟩ ?_))
 refine wpAny_ite_split (fun _ => ?_) (fun e => absurd (by decide +kernel) e)
 refine wpAny_bind (wpAny_rule ?_)
 refine wpAny_bind ?_
 show wpAny _ A.in1 (updateSeq s.heap.objs.size (·.push .none) >>= fun _ => updateSeq s.heap.objs.size (·.pop)) _ _ _
 have hS1 := k1 _ _ hLg
 refine wpAny_bind (wpAny_updateSeq hS1 rfl ?_)
 have hS2 := Heap.get?_update_self (Obj.mapSeq (·.push Value.none)) hS1 rfl
 refine wpAny_updateSeq hS2 rfl ?_
 have hS3 := Heap.get?_update_self (Obj.mapSeq (·.pop)) hS2 rfl
 generalize hG : (h1.update s.heap.objs.size (Obj.mapSeq (·.push Value.none))).update s.heap.objs.size (Obj.mapSeq (·.pop)) = h2 at hS3 ⊢
 have k2 : ∀ b u, b ≠ s.heap.objs.size -> h1.get? b = some u -> h2.get? b = some u := fun b u hb e => by
  rw [<- hG]; exact (Heap.get?_update_other _ _ (Ne.symm hb)).trans ((Heap.get?_update_other _ _ (Ne.symm hb)).trans e)
 have hSf : s.heap.objs.size ∉ fp := fun hm => by
  rcases hfp _ hm with e | e
  ·rw [<- e] at halt; exact Nat.lt_irrefl _ halt
  ·have e' : hL.objs.size <= s.heap.objs.size := e
   rw [hLs] at e'; lia
 obtain ⟨St, W, st0⟩ := hW A.in1 (by simp [hh])
 have st2 := W.frame 0 h1 h2 st0 fun b hb u e => k2 b u (fun x => hSf (x ▸ hb)) e
 refine wpAny_pure ⟨plainId_quiet F.plain_extend_loop _, codeAny_extend_loopS (A:=A) W.toS (by rw [hvs.length_eq]; simp; exact zbo (by have := S0.small; have := S0.ent.length; simp at this; lia)) _ hSf _ vs.length 0 _ _ _ rfl (Nat.zero_le _) st2 hS3 (ItemsOf.nil _) fun s' acc c hm hS' hacc => ?_⟩
 show wpAny _ A (load s.heap.objs.size >>= _) _ _ s'
 refine wpAny_bind (wpAny_load hS' ?_)
 have ev : acc.toList = vs := by
  refine List.ext_getElem? fun i => ?_
  by_cases hi : i < acc.size
  ·have e1 : acc[i]? = some acc[i] := Array.getElem?_eq_getElem hi
   rw [hacc.2 i _ e1, List.getElem?_eq_getElem (by simpa using hi)]; simp
  ·rw [List.getElem?_eq_none (by simpa using hi), List.getElem?_eq_none (by have := hacc.1; lia)]
 have es' := Moved.eq_with hm
 refine wpAny_pure ?_
 show Q acc.toList s'
 rw [ev, es']
 refine q vs s'.heap d s'.toks hvs (fun b u e => ?_) (Heap.lt_size hS')
 have hb := Heap.lt_size e
 have hb1 : b ≠ s.heap.objs.size := Nat.ne_of_lt hb
 have hb2 : b ≠ I := fun x => by
  have e' : hL.objs.size <= I := hI1
  rw [hLs, <- x] at e'
  exact Nat.lt_irrefl _ (Nat.lt_trans hb e')
 exact hm.heap b u (by simp [hb1, hb2]) (k2 b u hb1 (k1 b u (k0 b u e)))
end
end L2
namespace L2
open PySem PySem.Spec PyProof.Rows L2T
section
variable {prog : Program} {w : World} {A : Around} {E : Value -> Shared -> Prop} {s : Shared}
theorem zxh {k : SK} {x : Value} {Q : Int -> Shared -> Prop} (hu : A.units < cLine) (hx : k.is prog w s.heap x) (q : ∀ tk, Q (k.hash prog w) { s with toks := tk }) : wpAny (model prog w) A (pyHash x) Q E s := by
 cases k with
 | one k => exact (zav prog w).pyHash hx (q _)
 | many kk => obtain ⟨a, rfl, hk⟩ := hx; exact wpAny_pyHash_tuple hu hk (q _)
structure Part (prog : Program) (w : World) (k0 : List SK) (items : Array Value) (i : Nat) (ks : List SK) (es : Array (Int × Value)) : Prop where
 mem : ∀ k, k ∈ ks ↔ ∃ j : Nat, j < i /\ k0[j]? = some k
 len : ks.length <= i
 ent : ∀ e ∈ es.toList, ∃ j : Nat, items[j]? = some e.2
theorem ztc {S I l : Addr} {items : Array Value} {k0 : List SK} {f : Bool} {R : Result -> Shared -> Prop} (hu : A.units + 1 < cLine) (hh : A.handled = none) (hSI : S ≠ I) (hSl : S ≠ l) (hIl : l ≠ I)
  (hlen : k0.length = items.size) (hn : items.size <= 1000) (hf : ∀ k ∈ k0, k.flat = f) :
  ∀ (m i : Nat) (s : Shared) (ks : List SK) (es : Array (Int × Value)), items.size - i = m -> i <= items.size -> s.heap.IsListIter I l i -> s.heap.IsList l items -> SetE prog w s.heap S ks es -> Part prog w k0 items i ks es ->
   (∀ (j : Nat) (v : Value) (k : SK), items[j]? = some v -> k0[j]? = some k -> k.is prog w s.heap v) ->
   (∀ s' ks' es', (∀ b o, b ≠ I -> b ≠ S -> s.heap.get? b = some o -> s'.heap.get? b = some o) -> (∃ tk, s' = { s with heap := s'.heap, toks := tk }) -> SetE prog w s'.heap S ks' es' -> Part prog w k0 items items.size ks' es' -> R (.ok (.ret .none)) s') ->
   codeAny (model prog w) A (.builtin "set.update.loop" ⟨[.ref S, .ref I], []⟩) R s := by
 intro m
 induction m with
 | zero =>
  intro i s ks es hk hi hit hl hS hp hkey hR
  have hin : i = items.size := by lia
  subst hin
  refine codeAny_builtin F.entry_set_update_loop ?_
  rw [Around.under_plainId F.plain_set_update_loop _]
  show wpAny _ A.in1 (pyNext (.ref I) >>= _) _ _ s
  refine wpAny_bind (wpAny_pyNext_list_end (by simp [hh]) hit hl (by simp) fun h' he => ?_)
  show wpAny _ A.in1 (ret Value.none) _ _ _
  obtain ⟨o, ep, t, ho, So⟩ := hS
  have kT : ziu s.heap h' := fun b u c e => he b u (fun z => by
   obtain ⟨oi, h1, h2, _⟩ := hit
   rw [z, h1] at e; cases e; rw [h2] at c; exact absurd c (by decide)) e
  exact wpAny_pure (hR _ ks es (fun b u h1 _ e => he b u h1 e) ⟨s.toks, rfl⟩ ⟨o, ep, t, he S o hSI ho, So.mono kT⟩ hp)
 | succ m ih =>
  intro i s ks es hk hi hit hl hS hp hkey hR
  have hlt : i < items.size := by lia
  have hv : items[i]? = some items[i] := Array.getElem?_eq_getElem hlt
  have hki : k0[i]? = some (k0[i]'(by lia)) := List.getElem?_eq_getElem _
  have hx := hkey i _ _ hv hki
  have hfi := hf _ (List.mem_of_getElem? hki)
  generalize k0[i]'(by lia) = k at hki hx hfi
  refine codeAny_builtin F.entry_set_update_loop ?_
  rw [Around.under_plainId F.plain_set_update_loop _]
  show wpAny _ A.in1 (pyNext (.ref I) >>= _) _ _ s
  refine wpAny_bind (wpAny_pyNext_list_item hit hl hv fun h1 hit1 sb1 => ?_)
  have kT1 : ziu s.heap h1 := fun b u c e => (sb1.2 b (fun z => by
   obtain ⟨oi, g1, g2, _⟩ := hit
   rw [z, g1] at e; cases e; rw [g2] at c; exact absurd c (by decide))).trans e
  obtain ⟨o, ep, t, ho, So⟩ := hS
  have ho1 : h1.get? S = some o := (sb1.2 S hSI).trans ho
  show wpAny _ A.in1 (holding [items[i]] (setAdd S items[i]) >>= _) _ _ _
  refine wpAny_bind (wpAny_holding ?_)
  unfold setAdd
  refine wpAny_holding (wpAny_bind (zxh (by simp only [Around.in1_units]; omega) (SK.is_mono kT1 hx) fun tk => ?_))
  have kin : ∀ k' ∈ ks, k'.flat = k.flat := fun k' hk' => by
   obtain ⟨j, _, hj⟩ := (hp.mem k').mp hk'
   rw [hf _ (List.mem_of_getElem? hj), hfi]
  refine zyo (s:={ s with heap := h1, toks := tk }) (by simp only [Around.in1_units]; omega) ho1 (So.mono kT1) kin (SK.is_mono kT1 hx) (by have := hp.len; lia) fun h2 k2 e2 sb2 S2 p2 en2 => ?_
  have hp2 : Part prog w k0 items (i + 1) k2 e2 := by
   refine ⟨fun k' => ?_, ?_, fun e he => ?_⟩
   ·rw [p2.mem_iff]
    constructor
    ·intro hm
     have hm' : k' ∈ k :: ks := by
      split at hm
      ·exact List.mem_cons_of_mem _ hm
      ·exact hm
     rcases List.mem_cons.mp hm' with e | e
     ·exact ⟨i, by lia, by rw [e]; exact hki⟩
     ·obtain ⟨j, hj, hkj⟩ := (hp.mem k').mp e; exact ⟨j, by lia, hkj⟩
    ·rintro ⟨j, hj, hkj⟩
     have hm' : k' = k \/ k' ∈ ks := by
      rcases Nat.lt_or_ge j i with c | c
      ·exact .inr ((hp.mem k').mpr ⟨j, c, hkj⟩)
      ·have : j = i := by lia
       subst this; rw [hki] at hkj; cases hkj; exact .inl rfl
     split
     ·rename_i hin
      rcases hm' with e | e
      ·rw [e]; exact hin
      ·exact e
     ·rcases hm' with e | e
      ·rw [e]; exact List.mem_cons_self
      ·exact List.mem_cons_of_mem _ e
   ·rw [p2.length_eq]
    have := hp.len
    split
    ·lia
    ·simp; omega
   ·rcases en2 e he with z | z
    ·exact hp.ent e z
    ·exact ⟨i, by rw [z]; exact hv⟩
  have k12 : ziu h1 h2 := zem (es:=es) (ep:=ep) (t:=t) ho1 So.ex sb2
  refine wpAny_pure ⟨plainId_quiet F.plain_set_update_loop _, ih (i + 1) _ k2 e2 (by lia) hlt ?_ ?_ S2 hp2 (fun j v k' h3 h4 => SK.is_mono (fun b u c e => k12 b u c (kT1 b u c e)) (hkey j v k' h3 h4)) fun s' k3 e3 kp ⟨tk', hs'⟩ S3 p3 => ?_⟩
  ·exact hit1.at fun u e => (sb2.2 I (Ne.symm hSI)).trans e
  ·exact (hl.extBut sb1.extBut hIl).at fun u e => (sb2.2 l (Ne.symm hSl)).trans e
  ·refine hR s' k3 e3 (fun b u h3 h4 e => kp b u h3 h4 ((sb2.2 b h4).trans ((sb1.2 b h3).trans e))) ⟨tk', ?_⟩ S3 p3
   rw [hs']
end
end L2
namespace L2
open PySem PySem.Spec PyProof.Rows L2T
section
variable {prog : Program} {w : World} {A : Around} {E : Value -> Shared -> Prop} {s : Shared}
theorem zsw {h : Heap} {a : Addr} {led : Bool} (hl : led = led0 w) (hg : h.get? a = some { cls := .type "set", dict := none, data := .set #[] 0 (.fresh 0 0 led) }) : SetE prog w h a [] #[] :=
 ⟨_, 0, _, hg, ⟨rfl, rfl, rfl⟩, rfl, zpj 0 0 led, .nil, List.nodup_nil, by simp, hl, true, fun k hk => by cases hk⟩
theorem zq1 (a : Value) {Q1 : Value -> Shared -> Prop} (h : Q1 (.ref s.heap.objs.size) { s with heap := s.heap.push { cls := .type "set", dict := none, data := .set #[] 0 (.fresh 0 0 (led0 w)) } }) :
  codeAny (model prog w) A (.call (.builtin "set.__new__") ⟨[.type "set", a], []⟩) (wants Q1 E) s := by
 refine codeAny_of_tree ?_
 show wpAny _ A.in1 (do checkBuiltinCall "set.__new__" ⟨[.type "set", a], []⟩; again (.builtin "set.__new__" ⟨[.type "set", a], []⟩)) _ _ s
 refine wpAny_bind (wpAny_of_eq (F.newCall_set_1 a) (wpAny_pure ⟨plainId_quiet F.plain_set_new _, codeAny_builtin F.entry_set_new ?_⟩))
 rw [Around.under_plainId F.plain_set_new _]
 unfold Builtin.«set.__new__» Builtin.Frozenset.newClass
 have hsub := sub_set_self
 obtain ⟨hp, g, d, tk, os⟩ := s
 dsimp only
 wp_walk
 refine wpAny_askSetting (wpAny_pure ?_)
 dsimp only
 simp only [newObj]
 refine wpAny_bind (wpAny_alloc (wpAny_pure ?_))
 exact wpAny_pure h
theorem zny {l : Addr} {items : Array Value} {k0 : List SK} {f : Bool} {Q : Value -> Shared -> Prop} (hu : A.units + 16 < cLine) (hh : A.handled = none) (hl : s.heap.IsList l items) (hlen : k0.length = items.size) (hn : items.size <= 1000) (hf : ∀ k ∈ k0, k.flat = f)
  (hkey : ∀ (j : Nat) (v : Value) (k : SK), items[j]? = some v -> k0[j]? = some k -> k.is prog w s.heap v)
  (q : ∀ h' tk ks es, zd3 s.heap h' -> SetE prog w h' s.heap.objs.size ks es -> Part prog w k0 items items.size ks es -> Q (.ref s.heap.objs.size) { s with heap := h', toks := tk }) :
  wpAny (model prog w) A (call (.type "set") [.ref l]) Q E s := by
 obtain ⟨c, tl, hmro⟩ := F.called_set.mro
 have hmade := F.called_set.made
 have hsub := F.called_set.sub
 refine wpAny_call (codeAny_of_tree ?_)
 show wpAny _ _ (callAny (.type "set") _) _ _ _
 refine wpAny_pure ⟨Code.quiet_builtin _ (by decide +kernel), codeAny_builtin F.entry_type_call ?_⟩
 rw [Around.under_plain (weight_type_call_type "set" [.ref l] []) rfl]
 have h1 := F.called_set.notType
 have h2 := F.called_set.canCreate
 have hct := F.typeCall_set_1 (.ref l)
 repeat (any_goals (first | assumption | wp_step))
 refine codeAny_mono (zq1 (.ref l) (E:=E) (Q1:=fun obj s1 => obj = .ref s.heap.objs.size /\ s1 = { s with heap := s.heap.push { cls := .type "set", dict := none, data := .set #[] 0 (.fresh 0 0 (led0 w)) } }) ⟨rfl, rfl⟩) fun r s1 hr => ?_
 cases r with
 | error e => exact hr
 | ok fl =>
  cases fl with
  | ret obj =>
   obtain ⟨rfl, rfl⟩ := hr
   generalize hN : s.heap.push { cls := .type "set", dict := none, data := .set #[] 0 (.fresh 0 0 (led0 w)) } = hp1
   have hS : hp1.get? s.heap.objs.size = some { cls := .type "set", dict := none, data := .set #[] 0 (.fresh 0 0 (led0 w)) } := by rw [<- hN]; exact Heap.get?_push_size _ rfl
   have k1 : zd3 s.heap hp1 := by rw [<- hN]; exact zbp
   have z1 : hp1.objs.size = s.heap.objs.size + 1 := by rw [<- hN, Heap.size_push]
   have hT : Shared.TypeIs { s with heap := hp1 } (.ref s.heap.objs.size) "set" := ⟨_, hS, rfl⟩
   have hli := F.called_set.init.lookup
   have hbi := F.called_set.init.bind (.ref s.heap.objs.size)
   repeat (any_goals (first | assumption | wp_step))
   refine codeAny_mono (codeAny_call_builtin (R:=wants (fun r s2 => r = .none /\ ∃ h' tk ks es, s2 = { s with heap := h', toks := tk } /\ zd3 s.heap h' /\ SetE prog w h' s.heap.objs.size ks es /\ Part prog w k0 items items.size ks es) E)
    F.called_set.init.plain F.entry_set_init (check_set_init_1 hT ?_)) fun r2 s2 hr2 => ?_
   ·obtain ⟨ol, hol, hcl, nl, hdl⟩ := id hl
    obtain ⟨ocls, odict, odata, oslots⟩ := ol
    simp only at hcl hdl
    subst hcl; subst hdl
    have hol' := k1 _ _ hol
    have hsls := F.sub_list_set
    have hslf := F.sub_list_frozenset
    have hne : (Value.type "list" == Value.type "dict") = false := by decide
    have hl1 : hp1.IsList l items := ⟨_, hol', rfl, nl, rfl⟩
    unfold Builtin.«set.__init__» noKeywords Builtin.Frozenset.updateFrom
    generalize hPI : pyIter = PI
    wp_walk
    subst hPI
    refine wpAny_pyIter_list hl1 ?_
    refine wpAny_bind (wpAny_runValue ?_)
    have hlS : l < s.heap.objs.size := Heap.lt_size hol
    have hIt : (hp1.push { cls := .type "list_iterator", data := .fields #[.ref l, .int 0 0] }).IsListIter hp1.objs.size l 0 := ⟨_, Heap.get?_push_size _ rfl, rfl, rfl⟩
    refine ztc (S:=s.heap.objs.size) (I:=hp1.objs.size) (l:=l) (items:=items) (k0:=k0) (f:=f) ?hu ?hh ?n1 ?n2 ?n3 hlen hn hf (items.size - 0) 0 _ [] #[] (by lia) (Nat.zero_le _) hIt (hl1.push _) (zsw rfl (zbp _ _ hS)) ⟨fun k => ⟨(fun h => by cases h), (fun ⟨j, hj, _⟩ => by lia)⟩, by simp, (fun e he => by cases he)⟩ (fun j v k a b => SK.is_mono (fun b u _ e => zbp _ _ (k1 _ _ e)) (hkey j v k a b)) ?hR
    case hu => simp only [Around.in1_units]; lia
    case hh => simp [hh]
    case n1 => rw [z1]; exact Nat.ne_of_lt (Nat.lt_succ_self _)
    case n2 => exact Nat.ne_of_gt hlS
    case n3 => rw [z1]; exact Nat.ne_of_lt (Nat.lt_succ_of_lt hlS)
    case hR =>
     intro s' ks' es' kp ⟨tk', hs'⟩ S' p'
     show wpAny _ _ _ _ _ _
     refine wpAny_pure ?_
     show wpAny _ _ (ret Value.none) _ _ _
     refine wpAny_pure ⟨rfl, s'.heap, tk', ks', es', hs', fun b o e => ?_, S', p'⟩
     have hb := Heap.lt_size e
     exact kp b o (by rw [z1]; exact Nat.ne_of_lt (Nat.lt_succ_of_lt hb)) (Nat.ne_of_lt hb) (zbp _ _ (k1 _ _ e))
   ·cases r2 with
    | error e => exact hr2
    | ok fl2 =>
     cases fl2 with
     | ret r =>
      obtain ⟨rfl, h', tk, ks, es, rfl, a1, a2, a3⟩ := hr2
      repeat (any_goals (first | assumption | wp_step))
      exact q _ _ _ _ a1 a2 a3
     | _ => exact hr2.elim
  | _ => exact hr.elim
end
end L2
namespace L2
open PySem PySem.Spec PyProof.Rows L2T
end L2
namespace L2
open PySem PySem.Spec PyProof.Rows L2T
section
variable {prog : Program} {w : World} {A : Around} {E : Value -> Shared -> Prop} {s : Shared}
structure Took (kb : List SK) (p : SK -> Bool) (es0 : List (Int × Value)) (kd : List SK) (kr : List SK) (er : Array (Int × Value)) : Prop where
 mem : ∀ k, k ∈ kr ↔ k ∈ kb \/ (k ∈ kd /\ p k = true)
 len : kr.length <= kb.length + kd.length
 ent : ∀ e ∈ er.toList, e ∈ es0
end
end L2
namespace L2
open PySem PySem.Spec PyProof.Rows L2T
end L2
namespace L2
open PySem PySem.Spec PyProof.Rows L2T
end L2
namespace L2
open PySem PySem.Spec PyProof.Rows L2T
end L2
namespace L2
open PySem PySem.Spec PyProof.Rows L2T
end L2
namespace L2
open PySem PySem.Spec PyProof.Rows L2T
end L2
namespace L2
open PySem PySem.Spec PyProof.Rows L2T
end L2
namespace L2
open PySem PySem.Spec PyProof.Rows L2T
noncomputable def D.kk : D -> Key
 | .int i => .inl i
 | .str l => .inr (T l)
 | _ => .inl 0
noncomputable def D.fl : D -> Bool
 | .int _ => true
 | .str _ => true
 | _ => false
noncomputable def D.sk : D -> SK
 | .tup ds => .many (ds.map D.kk)
 | d => .one d.kk
noncomputable def D.hk : Bool -> D -> Bool
 | true, d => d.fl
 | false, .tup ds => ds.all D.fl
 | false, _ => false
theorem zug {d e : D} (h1 : d.fl = true) (h2 : e.fl = true) (h : d.kk = e.kk) : d = e := by
 cases d <;> simp [D.fl] at h1 <;> cases e <;> simp [D.fl] at h2 <;> simp [D.kk] at h
 ·rw [h]
 ·rw [zsn] at h; rw [h]
theorem zp0 : ∀ {ds es : List D}, ds.all D.fl = true -> es.all D.fl = true -> ds.map D.kk = es.map D.kk -> ds = es
 | [], [], _, _, _ => rfl
 | [], _ :: _, _, _, h => by simp at h
 | _ :: _, [], _, _, h => by simp at h
 | d :: ds, e :: es, h1, h2, h => by
  simp only [List.all_cons, Bool.and_eq_true] at h1 h2
  simp only [List.map_cons, List.cons.injEq] at h
  rw [zug h1.1 h2.1 h.1, zp0 h1.2 h2.2 h.2]
theorem zxg {f : Bool} {d e : D} (h1 : d.hk f = true) (h2 : e.hk f = true) (h : d.sk = e.sk) : d = e := by
 cases f with
 | true =>
  simp only [D.hk] at h1 h2
  have e1 : d.sk = .one d.kk := by cases d <;> first | rfl | simp [D.fl] at h1
  have e2 : e.sk = .one e.kk := by cases e <;> first | rfl | simp [D.fl] at h2
  rw [e1, e2] at h
  injection h with h
  exact zug h1 h2 h
 | false =>
  cases d <;> simp [D.hk] at h1
  cases e <;> simp [D.hk] at h2
  simp [D.sk] at h
  rw [zp0 (by simpa using h1) (by simpa using h2) h]
theorem zly {f : Bool} {d : D} (h : d.hk f = true) : d.sk.flat = f := by
 cases f with
 | true => cases d <;> simp [D.hk, D.fl] at h <;> rfl
 | false => cases d <;> simp [D.hk] at h; rfl
section
variable (P : Program) (w : World)
noncomputable def zqa (p : Addr) (ks : List SK) (xs : List V) : HO := .ext fun h => ∃ o es ep t, h.get? p = some o /\ o.ExactSet /\ SetL w o es ep t /\ es.toList.map (·.1) = ks.map (SK.hash P w) /\ Vals xs (es.toList.map (·.2)) /\ ks.Nodup /\ ks.length <= 1000
end
section
variable {X : Cx} {pins : List (Addr × Obj)} {σ : St} {H : Hp} {s : Shared}
theorem Inv.drw (I : Inv X pins σ H s) (d : Drawn) : Inv X pins σ H { s with drawn := d } := ⟨I.ok, I.os, I.bare, I.base, I.loc, I.cell, I.free, I.freeC, I.pin, I.hok, I.len⟩
theorem zxl {d : D} {x : V} {u : Value} (hf : d.fl = true) (r : Rep X.K H d x) (q : RelV x u) : (zav X.prog X.w).is d.kk u = true := by
 cases d <;> simp [D.fl] at hf
 ·rw [r.of_int] at q; obtain ⟨t, rfl⟩ := q; exact zlm ..
 ·rw [r.of_str] at q; obtain ⟨t, rfl⟩ := q; exact zlv ..
theorem zud : ∀ {ds : List D} {xs : List V} {us : List Value}, ds.all D.fl = true -> Reps X.K H ds xs -> Vals xs us -> ItemsAre (zav X.prog X.w) (ds.map D.kk) us
 | [], _, _, _, r, q => by rw [Reps] at r; subst r; cases q; exact .nil
 | d :: ds, _, _, hf, r, q => by
  rw [Reps] at r
  obtain ⟨x, xs, rfl, r1, r2⟩ := r
  simp only [List.all_cons, Bool.and_eq_true] at hf
  cases q with
  | cons q1 q2 => exact .cons (zxl hf.1 r1 q1) (zud hf.2 r2 q2)
theorem Inv.sk (I : Inv X pins σ H s) {f : Bool} {d : D} {x : V} {u : Value} (hf : d.hk f = true) (r : Rep X.K H d x) (q : RelV x u) : d.sk.is X.prog X.w s.heap u := by
 cases f with
 | true =>
  have e1 : d.sk = .one d.kk := by cases d <;> first | rfl | simp [D.hk, D.fl] at hf
  rw [e1]; exact zxl (by simpa [D.hk] using hf) r q
 | false =>
  cases d <;> simp [D.hk] at hf
  rename_i ds
  obtain ⟨p, xs, rfl, sq, rs⟩ := r.of_tup
  cases q
  obtain ⟨its, rv, ⟨o, e, c, n, hd⟩, _⟩ := I.tuple sq
  exact ⟨p, rfl, o, its.toArray, n, e, c, hd, by simpa using zud (by simpa using hf) rs rv⟩
theorem zwm (I : Inv X pins σ H s) {f : Bool} : ∀ {ds : List D} {xs : List V} {es : List (Int × Value)}, (∀ d ∈ ds, d.hk f = true) -> Reps X.K H ds xs -> Vals xs (es.map (·.2)) -> es.map (·.1) = (ds.map D.sk).map (SK.hash X.prog X.w) -> Es X.prog X.w s.heap (ds.map D.sk) es
 | [], _, es, _, r, q, _ => by
  rw [Reps] at r; subst r
  cases es with
  | nil => exact .nil
  | cons _ _ => cases q
 | d :: ds, _, es, hf, r, q, hh => by
  rw [Reps] at r
  obtain ⟨x, xs, rfl, r1, r2⟩ := r
  cases es with
  | nil => cases q
  | cons e es =>
   simp only [List.map_cons, List.cons.injEq] at hh
   cases q with
   | cons q1 q2 => exact .cons hh.1 (I.sk (hf d List.mem_cons_self) r1 q1) (zwm I (fun d' h => hf d' (List.mem_cons_of_mem _ h)) r2 q2 hh.2)
theorem Inv.setE (I : Inv X pins σ H s) {f : Bool} {a : Addr} {ds : List D} {xs : List V} (e : H a = some (zqa X.prog X.w a (ds.map D.sk) xs)) (hf : ∀ d ∈ ds, d.hk f = true) (r : Reps X.K H ds xs) :
  ∃ es, SetE X.prog X.w s.heap a (ds.map D.sk) es /\ Vals xs (es.toList.map (·.2)) := by
 obtain ⟨⟨o, es, ep, t, ho, hx, S, hh, rv, hn, hl⟩, _, _⟩ := I.hok a _ e
 exact ⟨es, ⟨o, ep, t, ho, hx, S.data, S.tab, zwm I hf r rv hh, hn, hl, S.led, f, fun k hk => by
  obtain ⟨d, hd, rfl⟩ := List.mem_map.mp hk
  exact zly (hf d hd)⟩, rv⟩
noncomputable def Src (da : List D) (xa : List V) (db : List D) (xb : List V) (dr : List D) (xr : List V) : Prop :=
 dr.length = xr.length /\ ∀ (i : Nat) d x, dr[i]? = some d -> xr[i]? = some x -> ∃ j : Nat, (da[j]? = some d /\ xa[j]? = some x) \/ (db[j]? = some d /\ xb[j]? = some x)
theorem Src.reps {K : PySem.W.Frag} {F : Hp} {da db dr : List D} {xa xb xr : List V} (h : Src da xa db xb dr xr) (ra : Reps K F da xa) (rb : Reps K F db xb) : Reps K F dr xr := by
 obtain ⟨hl, h⟩ := h
 induction dr generalizing xr with
 | nil => cases xr with
  | nil => exact Reps.nil
  | cons _ _ => simp at hl
 | cons d dr ih => cases xr with
  | nil => simp at hl
  | cons x xr =>
   refine Reps.cons ?_ (ih (by simpa using hl) fun i d' x' h1 h2 => h (i + 1) d' x' h1 h2)
   obtain ⟨j, ⟨h1, h2⟩ | ⟨h1, h2⟩⟩ := h 0 d x rfl rfl
   ·obtain ⟨x', e, r⟩ := ra.get' h1
    rw [h2] at e; cases e; exact r
   ·obtain ⟨x', e, r⟩ := rb.get' h1
    rw [h2] at e; cases e; exact r
theorem Src.mem {da db dr : List D} {xa xb xr : List V} (h : Src da xa db xb dr xr) {d : D} (hd : d ∈ dr) : d ∈ da \/ d ∈ db := by
 obtain ⟨i, hi⟩ := List.mem_iff_getElem?.mp hd
 have hil := (List.getElem?_eq_some_iff.mp hi).1
 obtain ⟨j, ⟨h1, _⟩ | ⟨h1, _⟩⟩ := h.2 i d (xr[i]'(by have := h.1; lia)) hi (List.getElem?_eq_getElem _)
 ·exact .inl (List.mem_of_getElem? h1)
 ·exact .inr (List.mem_of_getElem? h1)
theorem zxi {h : Heap} {k k' : SK} {v : Value} (a : k.is X.prog X.w h v) (b : k'.is X.prog X.w h v) (hf : k.flat = k'.flat) : k = k' := by
 cases k <;> cases k' <;> simp [SK.flat] at hf
 ·exact congrArg _ ((zav X.prog X.w).inj _ _ _ a b)
 ·obtain ⟨u, e1, i1⟩ := a
  obtain ⟨v, e2, i2⟩ := b
  rw [e1] at e2; cases e2
  exact congrArg _ (i1.inj i2)
theorem zth {h' : Heap} {r : Addr} {H' : Hp} {dr : List D} {xr : List V} {er : Array (Int × Value)} (S : SetE X.prog X.w h' r (dr.map D.sk) er) (v : Vals xr (er.toList.map (·.2))) : zc2 X.prog X.w H' h' r (zqa X.prog X.w r (dr.map D.sk) xr) := by
 obtain ⟨o, ep, t, ho, S⟩ := S
 refine ⟨⟨o, er, ep, t, ho, S.ex, S.lite, ?_, v, S.nod, S.small⟩, ⟨o, ho⟩, ?_⟩
 ·have := S.ent
  generalize dr.map D.sk = kr at this
  generalize er.toList = el at this
  induction this with
  | nil => rfl
  | cons a _ _ ih => simp [a, ih]
 ·rintro h1 h2 ⟨o, es, ep, t, ho, r⟩ k
  exact ⟨o, es, ep, t, k o ho, r⟩
end
end L2
namespace L2
open PySem PySem.Spec PyProof.Rows L2T
section
variable (P : Program) (w : World) (K : PySem.W.Frag)
noncomputable def zox (f : Bool) : List V -> Hp -> VK -> Prop := fun vs H Q => ∃ a xs ds, vs = [.ref a] /\ SqL K H a xs /\ Reps K H ds xs /\ (∀ d ∈ ds, d.hk f = true) /\ ds.length <= 1000 /\
 ∀ r dr xr, H r = none -> dr.Nodup -> (∀ d, d ∈ dr ↔ d ∈ ds) -> Src ds xs [] [] dr xr -> Q (.ref r) (upd H r (zqa P w r (dr.map D.sk) xr))
end
theorem zwo {f : Bool} {ds : List D} (hf : ∀ d ∈ ds, d.hk f = true) {d : D} (hd : d.hk f = true) : d.sk ∈ ds.map D.sk ↔ d ∈ ds := by
 constructor
 ·intro h
  obtain ⟨e, he, h2⟩ := List.mem_map.mp h
  rw [<- zxg (hf e he) hd h2]; exact he
 ·exact fun h => List.mem_map_of_mem h
theorem ztp {dr : List D} (h : (dr.map D.sk).Nodup) : dr.Nodup := by
 unfold List.Nodup at *
 rw [List.pairwise_map] at h
 exact h.imp fun a e => a (congrArg _ e)
section
variable {X : Cx}
theorem zrb {f : Bool} (hc : X.calm = true) (hu : X.A.units + 64 < cLine) : zca X (.type "set") (zox X.prog X.w X.K f) := by
 intro pins s σ H vs us Q I r h
 obtain ⟨a, xs, ds, rfl, hq, rs, hf, hl, q⟩ := h
 obtain ⟨u, rfl, ru⟩ := zfo r
 cases ru
 obtain ⟨its, rv, pl, _⟩ := I.list hq
 have l1 := rs.length
 have l2 := rv.length
 have hk0 : ∀ k ∈ ds.map D.sk, k.flat = f := fun k hk => by obtain ⟨d, hd, rfl⟩ := List.mem_map.mp hk; exact zly (hf d hd)
 have hkey : ∀ (j : Nat) (v : Value) (k : SK), its.toArray[j]? = some v -> (ds.map D.sk)[j]? = some k -> k.is X.prog X.w s.heap v := fun j v k h1 h2 => by
  rw [List.getElem?_map] at h2
  cases hd : ds[j]? with
  | none => rw [hd] at h2; cases h2
  | some d =>
   rw [hd] at h2
   have : d.sk = k := by simpa using h2
   subst this
   obtain ⟨x, hx, rx⟩ := rs.get' hd
   obtain ⟨u, hu', ru⟩ := rv.get hx
   have h1' : its[j]? = some v := by simpa using h1
   rw [h1'] at hu'; cases hu'
   exact I.sk (hf d (List.mem_of_getElem? hd)) rx ru
 refine zny (k0:=ds.map D.sk) (f:=f) (by lia) (I.ok.hd hc) pl.isList (by simp; lia) (by simp; lia) hk0 hkey fun h' tk ks es K' S p => ?_
 have hex : ∀ (kr : List SK) (el : List (Int × Value)), Es X.prog X.w h' kr el -> (∀ k ∈ kr, k.flat = f) -> (∀ e ∈ el, ∃ j : Nat, its.toArray[j]? = some e.2) -> ∃ dr xr, dr.map D.sk = kr /\ Vals xr (el.map (·.2)) /\ Src ds xs [] [] dr xr := by
  intro kr el en
  induction en with
  | nil => intro _ _; exact ⟨[], [], rfl, .nil, rfl, fun i d x h => by simp at h⟩
  | @cons k e kr er g1 g2 _ ih =>
   intro hkk hent
   obtain ⟨dr, xr, a1, b1, c1⟩ := ih (fun k h => hkk k (List.mem_cons_of_mem _ h)) fun e h => hent e (List.mem_cons_of_mem _ h)
   obtain ⟨j, hj⟩ := hent e List.mem_cons_self
   have hj' : its[j]? = some e.2 := by simpa using hj
   have hjl := (List.getElem?_eq_some_iff.mp hj').1
   have hjd : ds[j]? = some (ds[j]'(by lia)) := List.getElem?_eq_getElem _
   obtain ⟨x, hx, rx⟩ := rs.get' hjd
   obtain ⟨u, hu', ru⟩ := rv.get hx
   rw [hj'] at hu'; cases hu'
   have hdk := hf _ (List.mem_of_getElem? hjd)
   have hsk : (ds[j]'(by lia)).sk = k := zxi (SK.is_mono K'.T (I.sk hdk rx ru)) g2 (by rw [zly hdk, hkk k List.mem_cons_self])
   refine ⟨_ :: dr, x :: xr, by rw [List.map_cons, hsk, a1], .cons ru b1, by simp [c1.1], fun i d' x' q1 q2 => ?_⟩
   cases i with
   | zero => simp at q1 q2; subst q1; subst q2; exact ⟨j, .inl ⟨hjd, hx⟩⟩
   | succ i => exact c1.2 i d' x' q1 q2
 obtain ⟨dr, xr, e1, v1, src⟩ := hex ks es.toList (let ⟨_, _, _, _, T⟩ := S; T.ent) (fun k hk => by
   obtain ⟨j, _, hj⟩ := (p.mem k).mp hk
   exact hk0 k (List.mem_of_getElem? hj)) p.ent
 subst e1
 have hnod : dr.Nodup := by obtain ⟨_, _, _, _, T⟩ := S; exact ztp T.nod
 have hdr : ∀ d ∈ dr, d.hk f = true := fun d hd => by
  rcases src.mem hd with z | z
  ·exact hf d z
  ·cases z
 refine ⟨.ref s.heap.objs.size, _, I.laid (t':=tk) K' (Nat.le_refl _) (zth S v1), rfl, q _ dr xr (I.hok.fresh (Nat.le_refl _)) hnod (fun d => ⟨fun h => (src.mem h).elim id (fun z => by cases z), fun h => ?_⟩) src⟩
 refine (zwo hdr (hf d h)).mp ((p.mem d.sk).mpr ?_)
 obtain ⟨j, hj⟩ := List.mem_iff_getElem?.mp h
 exact ⟨j, by have := (List.getElem?_eq_some_iff.mp hj).1; simp; lia, by rw [List.getElem?_map, hj]; rfl⟩
end
end L2
namespace L2
open PySem PySem.W PyProof.Rows L2T
section
variable {prog : Program} {w : World} {A : Around} {E : Value -> Shared -> Prop} {s : Shared}
theorem zkx {a : Addr} {o : Obj} {ks : List SK} {es : Array (Int × Value)} {ep : Nat} {t : SetTable} {Q : Value -> Shared -> Prop} (Out : List Value -> Array Value -> Prop) (hh : A.handled = none) (ho : s.heap.get? a = some o) (S : SetO prog w s.heap o ks es ep t)
  (hs : ∀ (vs : List Value) (h' : Heap) (d : Drawn) (tk : Nat), vs.Perm (es.toList.map (·.2)) -> 2 <= vs.length -> zev s.heap h' -> zrm prog w A.in1.in1 { s with heap := h', drawn := d, toks := tk } vs (Out vs)) (h1 : ∀ vs : List Value, vs.Perm (es.toList.map (·.2)) -> vs.length < 2 -> Out vs vs.toArray)
  (h : ∀ (vs : List Value) out c h' (d : Drawn) (tk : Nat) (l : Addr), vs.Perm (es.toList.map (·.2)) -> zev s.heap h' -> s.heap.objs.size <= l -> h'.get? l = some (seqObj "list" out c) -> out.size = vs.length -> Out vs out -> Q (.ref l) { s with heap := h', drawn := d, toks := tk }) :
  wpAny (model prog w) A (call (.builtin "sorted") [.ref a]) Q E s := by
 refine Calls.call_function_entry kind_sorted plain_sorted entry_sorted (args_sorted1 _) ?_
 unfold Builtin.«sorted»
 refine wpAny_bind (m:=checkCount "sorted" 1 1 _) (wpAny_pure ?_)
 refine wpAny_bind (zqv (by simp [hh]) ho S fun vs g1 d tk hp K1 hlt => ?_)
 have hz : vs.length <= sizeLine := by
  have := hp.length_eq
  have := S.small
  have := S.ent.length
  simp at *
  exact zbo (by lia)
 refine wpAny_bind (wpAny_newList ?_ hz)
 dsimp only
 have hl : s.heap.objs.size <= g1.objs.size := Nat.le_of_lt hlt
 have hg : (g1.push { cls := .type "list", data := .seq vs.toArray }).get? g1.objs.size = some (seqObj "list" vs.toArray 0) := Heap.get?_push_size _ rfl
 have k2 : zev s.heap (g1.push { cls := .type "list", data := .seq vs.toArray }) := fun b u e => Heap.get?_push_of_some _ (K1 b u e)
 have ne : ∀ b u, s.heap.get? b = some u -> b ≠ g1.objs.size := fun b u e => Nat.ne_of_lt (Heap.lt_size (K1 b u e))
 refine wpAny_bind (wpAny_holding (wpAny_call_entry slot_list_sort ⟨_, hg, rfl⟩ entry_list_sort (zhj (s:={ s with heap := g1.push { cls := .type "list", data := .seq vs.toArray }, drawn := d, toks := tk }) (Out vs) hg hz
  (fun h2 h' k => hs vs h' d tk hp h2 fun b u e => k b u (ne b u e) (k2 b u e)) (h1 vs hp) fun out c h' k hc hsz hO => ⟨_, rfl, ?_⟩) (args_list_sort _)))
 exact wpAny_pure ⟨_, rfl, h vs out c h' d tk _ hp (fun b u e => k b u (ne b u e) (k2 b u e)) hl hc hsz hO⟩
end
end L2
namespace L2
open PySem PySem.W PyProof.Rows L2T
theorem zdw.perm {ds es : List D} (h : zdw ds) (p : es.Perm ds) : zdw es := by
 rcases h with h | h | ⟨t, ts, h⟩
 ·exact .inl fun d hd => h d (p.mem_iff.mp hd)
 ·exact .inr (.inl fun d hd => h d (p.mem_iff.mp hd))
 ·exact .inr (.inr ⟨t, ts, fun d hd => h d (p.mem_iff.mp hd)⟩)
theorem zdw.sub {ds es : List D} (h : zdw ds) (p : ∀ d ∈ es, d ∈ ds) : zdw es := by
 rcases h with h | h | ⟨t, ts, h⟩
 ·exact .inl fun d hd => h d (p d hd)
 ·exact .inr (.inl fun d hd => h d (p d hd))
 ·exact .inr (.inr ⟨t, ts, fun d hd => h d (p d hd)⟩)
theorem zd8 {ds es : List D} (h : zdw ds) (p : es.Perm ds) : zdg es = zdg ds := zig h ((zb3 es).trans p) (zfh es)
theorem Src.refl {ds : List D} {xs : List V} (h : ds.length = xs.length) : Src ds xs [] [] ds xs := ⟨h, fun i d x h1 h2 => ⟨i, .inl ⟨h1, h2⟩⟩⟩
theorem zk1 {us us' : List Value} (p : us'.Perm us) : ∀ {ds : List D} {xs : List V}, ds.length = xs.length -> Vals xs us -> ∃ ds' xs', Vals xs' us' /\ ds'.Perm ds /\ Src ds xs [] [] ds' xs' := by
 have p' := p.symm
 clear p
 induction p' with
 | nil => intro ds xs hl v; exact ⟨ds, xs, v, .refl _, Src.refl hl⟩
 | cons e _ ih =>
  intro ds xs hl v
  cases v with
  | @cons x _ xs _ v1 v2 =>
   cases ds with
   | nil => simp at hl
   | cons d ds =>
    obtain ⟨d2, x2, a, b, c⟩ := ih (by simpa using hl) v2
    refine ⟨d :: d2, x :: x2, .cons v1 a, b.cons _, by simp [c.1], fun i d' x' h1 h2 => ?_⟩
    cases i with
    | zero => simp at h1 h2; subst h1; subst h2; exact ⟨0, .inl ⟨rfl, rfl⟩⟩
    | succ i =>
     obtain ⟨j, hj⟩ := c.2 i d' x' h1 h2
     exact ⟨j + 1, hj.elim (fun z => .inl z) fun z => by simp at z⟩
 | swap e f l =>
  intro ds xs hl v
  cases v with
  | @cons x _ xs _ v1 v2 => cases v2 with
   | @cons y _ xs _ v2 v3 =>
    match ds, hl with
    | d :: d1 :: ds, hl =>
     refine ⟨d1 :: d :: ds, y :: x :: xs, .cons v2 (.cons v1 v3), List.Perm.swap _ _ _, by simpa using hl, fun i d' x' h1 h2 => ?_⟩
     match i with
     | 0 => simp at h1 h2; subst h1; subst h2; exact ⟨1, .inl ⟨rfl, rfl⟩⟩
     | 1 => simp at h1 h2; subst h1; subst h2; exact ⟨0, .inl ⟨rfl, rfl⟩⟩
     | i + 2 => exact ⟨i + 2, .inl ⟨h1, h2⟩⟩
 | trans _ _ ih1 ih2 =>
  intro ds xs hl v
  obtain ⟨d1, x1, a1, b1, c1⟩ := ih1 hl v
  obtain ⟨d2, x2, a2, b2, c2⟩ := ih2 c1.1 a1
  refine ⟨d2, x2, a2, b2.trans b1, c2.1, fun i d' x' h1 h2 => ?_⟩
  obtain ⟨j, hj⟩ := c2.2 i d' x' h1 h2
  rcases hj with ⟨g1, g2⟩ | ⟨g1, _⟩
  ·exact c1.2 j d' x' g1 g2
  ·simp at g1
end L2
namespace L2
open PySem PySem.W PyProof.Rows L2T
noncomputable def EvS (P : Program) (w : World) (K : PySem.W.Frag) (G H₀ L : Hp) (ss : List Sl) (t : TE) (ds : List D) : Prop := ∀ F H σ Q, Sat K G H₀ L F H σ ss ->
 (∀ p xs F' H' ds', Ext F H F' H' -> H p = none -> F' p = none -> H' p = some (zqa P w p (ds'.map D.sk) xs) -> Reps K F' ds' xs -> ds'.Nodup -> (∀ d, d ∈ ds' ↔ d ∈ ds) -> Q (.ref p) H') -> t σ H Q
section
variable {P : Program} {w : World} {K : PySem.W.Frag} {G H₀ L : Hp} {ss : List Sl} {t ta tb : TE} {f : Bool} {ds da db dr : List D}
theorem zun (a : EvL K G H₀ L ss t ds) (hf : ∀ d ∈ ds, d.hk f = true) (hl : ds.length <= 1000) : EvS P w K G H₀ L ss (tCB (zox P w K f) (zbe t tNil)) ds := fun F H σ Q S q =>
 a F H σ _ S fun p vs F' H' e sq r => ⟨p, vs, ds, rfl, sq, r.mono e.fh, hf, hl, fun l dr xr hl' hn hm src =>
  q l xr F' _ dr (e.newO hl') (e.hh.free hl') (e.fh.free hl') zal (src.reps r Reps.nil) hn hm⟩
end
noncomputable def ded : List D -> List D
 | [] => []
 | d :: ds => if d ∈ ds then ded ds else d :: ded ds
theorem ze5 {d : D} : ∀ {ds : List D}, d ∈ ded ds ↔ d ∈ ds
 | [] => Iff.rfl
 | e :: ds => by
  unfold ded
  split
  ·rw [ze5, List.mem_cons]
   exact ⟨.inr, fun h => h.elim (fun z => z ▸ by assumption) id⟩
  ·rw [List.mem_cons, List.mem_cons, ze5]
theorem zer : ∀ ds : List D, (ded ds).Nodup
 | [] => List.nodup_nil
 | e :: ds => by
  unfold ded
  split
  ·exact zer ds
  ·rw [List.nodup_cons, ze5]; exact ⟨by assumption, zer ds⟩
theorem zqn : ∀ ds : List D, (ded ds).length <= ds.length
 | [] => Nat.le_refl _
 | e :: ds => by
  have := zqn ds
  unfold ded
  split <;> simp <;> omega
end L2
namespace L2
open PySem PySem.W PyProof.Rows L2T
noncomputable def zvm (K : PySem.W.Frag) : R2 := fun x y H Q => ∃ l b xs zs, x = .ref l /\ y = .ref b /\ SqL K H l xs /\ SqL K H b zs /\ xs.length + zs.length <= sizeLine /\ ∀ p, H p = none -> Q (.ref p) (upd H p (.lst (xs ++ zs)))
theorem zwg {X : Cx} : OpR X (binaryOp .Add) (zvm X.K) := by
 intro pins s σ H x y v u Q I rx ry h
 obtain ⟨l, b, xs, zs, rfl, rfl, hl, hb, hz, q⟩ := h
 cases rx
 cases ry
 obtain ⟨its, r, pl, _⟩ := I.list hl
 obtain ⟨its2, r2, pl2, _⟩ := I.list hb
 have z1 := r.length
 have z2 := r2.length
 obtain ⟨⟨cls, dd, data, sl⟩, ho, hc, n, hd⟩ := pl.isList
 obtain ⟨⟨cls2, dd2, data2, sl2⟩, ho2, hc2, n2, hd2⟩ := pl2.isList
 dsimp only at hc hd hc2 hd2
 subst hc; subst hd; subst hc2; subst hd2
 refine concat_meets ⟨_, ho, rfl⟩ ⟨_, ho2, rfl⟩ noFill_list_add seq_list_add PySem.F.slot_list_add PySem.F.entry_list_add (PySem.F.args_list_add_2 _ _) (list_addW l b its.toArray its2.toArray n n2 dd dd2 sl sl2 (by simp; lia)) ⟨ho, ho2, ?_⟩
 have ea : its.toArray ++ its2.toArray = (its ++ its2).toArray := by simp
 rw [ea]
 exact ⟨.ref _, _, I.lnew (t':=s.toks) (r.append r2) (by rw [List.length_append]; omega), rfl, q _ I.fresh⟩
section
variable {K : PySem.W.Frag} {G H₀ L : Hp} {ss : List Sl} {ta tb : TE} {da db : List D}
theorem zu4 (a : EvL K G H₀ L ss ta da) (b : EvL K G H₀ L ss tb db) (hz : da.length + db.length <= sizeLine) : EvO K G H₀ L ss (tOp (zvm K) ta tb) (da ++ db) := fun F H σ Q S q =>
 a F H σ _ S fun p vs F1 H1 e1 sq1 r1 => b F1 H1 σ _ (S.ext2 e1) fun p2 vs2 F2 H2 e2 sq2 r2 => by
  have l1 := r1.length
  have l2 := r2.length
  refine ⟨p, p2, vs, vs2, rfl, rfl, SqL.same e2.hh sq1, sq2, by lia, fun l hl => ?_⟩
  have e12 := e1.trans e2
  exact q l _ F2 _ (e12.newO hl) (e12.hh.free hl) (e12.fh.free hl) zal ((r1.mono e2.gf).append r2)
theorem ztu {d : D} {v : V} (r : ∀ H, Rep K H d v) : Ev K G H₀ L ss (tC v) d := fun F H σ Q S q => q _ _ _ (Ext.refl S.ext.fh) (r _)
end
theorem zjh {K : PySem.W.Frag} {H : Hp} : ∀ (ls : List (List Nat)), (∀ l ∈ ls, ∀ c ∈ l, c < 128) -> Reps K H (ls.map .str) (ls.map fun l => .str (T l))
 | [], _ => Reps.nil
 | l :: ls, h => Reps.cons (Rep.str (h l List.mem_cons_self)) (zjh ls fun l' hl => h l' (List.mem_cons_of_mem _ hl))
theorem zhm : ∀ {ls : List (List Nat)} {us : List Value}, ls.length = us.length -> (∀ (i : Nat) (l : List Nat) (u : Value), ls[i]? = some l -> us[i]? = some u -> ∃ t, u = .str (T l) t) -> Vals (ls.map fun l => V.str (T l)) us
 | [], us, hl, _ => by cases us with
  | nil => exact .nil
  | cons _ _ => simp at hl
 | l :: ls, us, hl, h => by cases us with
  | nil => simp at hl
  | cons u us => exact .cons (h 0 l u rfl rfl) (zhm (by simpa using hl) fun i l' u' h1 h2 => h (i + 1) l' u' h1 h2)
noncomputable def TupK (K : PySem.W.Frag) (a : Addr) (ls : List (List Nat)) : Prop := ∀ H, Rep K H (.tup (ls.map .str)) (.ref a)
theorem zrj {K : PySem.W.Frag} {a : Addr} {o : Obj} {its : Array Value} {n : Nat} {ls : List (List Nat)} (hk : K.lookup a = some o) (hc : o.cls = .type "tuple") (hd : o.data = .seq its n) (hl : ls.length = its.size) (hs : ls.length <= 1000) (ha : ∀ l ∈ ls, ∀ c ∈ l, c < 128)
  (h : ∀ (i : Nat) (l : List Nat) (u : Value), ls[i]? = some l -> its.toList[i]? = some u -> ∃ t, u = .str (T l) t) : TupK K a ls := fun H =>
 Rep.tup (.inr ⟨o, its, n, hk, hc, hd, by rw [<- hl]; exact zbo (by lia), zhm (by simpa using hl) h⟩) (zjh ls ha)
end L2
namespace L2
open PySem PySem.W PyProof.Rows L2T
mutual
noncomputable def D.nl : D -> Bool
 | .lst _ => false
 | .dct _ _ => false
 | .dctT _ _ => false
 | .ins _ _ _ => false
 | .tup a => D.nls a
 | _ => true
noncomputable def D.nls : List D -> Bool
 | [] => true
 | a :: x => a.nl && D.nls x
end
end L2
namespace L2
open PySem PySem.W PyProof.Rows L2T
end L2
namespace L2
open PySem PySem.W PyProof.Rows L2T
end L2
namespace L2
open PySem PySem.W PySem.Spec PyProof.Rows
end L2
namespace L2
open PySem PySem.W PySem.Spec PyProof.Rows
end L2
namespace L2
open PySem PySem.W PyProof.Rows L2T
end L2
namespace L2
open PySem PySem.W PySem.Spec PyProof.Rows
noncomputable def SpRD (K : PySem.W.Frag) (pre : List D -> Prop) (R : List D -> D -> Prop) : Sp := fun vs H Q _ => ∃ G ds, Same G H /\ Reps K G ds vs /\ pre ds /\ ∀ r, R ds r -> ∀ v G' H', Ext G H G' H' -> Rep K G' r v -> Q v H'
section
variable {K : PySem.W.Frag} {H : Hp} {vs : List V} {Q : VK} {X : XK} {N : List Str} {t : TS} {pre : List D -> Prop} {R : List D -> D -> Prop}
theorem zux (h : SpRD K pre R vs H Q X) (hN : vs.length <= N.length) (body : ∀ G ds, pre ds -> (∀ r, R ds r -> RtD K G H Q r) -> Go K G H G { nx := fun _ H' => Q .non H', rt := Q } (slots N.length ds) t) : t { nx := fun _ H' => Q .non H', rt := Q } (start N vs) H := by
 obtain ⟨G, ds, sm, r, hp, q⟩ := h
 exact body G ds hp (fun rs hR v F H' e r => q rs hR v F H' e r) G H _ (zdt sm r hN)
theorem zmo {n : Nat} (hpre : ∀ ds, pre ds -> ds.length = n) (h : SpRD K pre R vs H Q X) : vs.length = n := by
 obtain ⟨G, ds, sm, r, hp, q⟩ := h
 rw [<- r.length]; exact hpre ds hp
end
section
variable {K : PySem.W.Frag} {G H₀ L : Hp} {ss : List Sl} {t : TA} {ds : List D} {pre : List D -> Prop} {R : List D -> D -> Prop} {E : XK} {D0 : Ends} {ta tb te : TE} {i j : Int}
theorem ztd {g : TG} (a : EvAF K G H₀ L ss t ds) (hp : pre ds) (h : ∀ r, R ds r -> ∃ ss', Tg K G H₀ L g r ss ss' /\ Nx K G H₀ L D0.nx ss') : Go K G H₀ L D0 ss (tAsg (zil (SpRD K pre R) [] E t) g) := fun F H σ S =>
 a F H σ _ S fun vs F1 H1 e1 r1 => ⟨F1, ds, e1.fh, by rw [List.append_nil]; exact r1, hp, fun r hR v G' H' e2 rr => by
  obtain ⟨ss', tg, nx⟩ := h r hR
  exact tg _ H' σ _ _ (S.ext2 (e1.trans e2)) rr fun σ' S' => nx _ H' σ' S'⟩
theorem zx6 (a : EvB K G H₀ L ss te (.int i)) : Ev K G H₀ L ss (tCB (fun xs H Q => ∃ x, xs = [.int x, .ty "int"] /\ Q (.bl true) H) (zbe te (zbe (tC (.ty "int")) tNil))) (.bl true) := fun F H σ Q S q =>
 a F H σ _ S fun v F1 H1 e1 r1 => ⟨i, by rw [r1.of_int], q _ _ _ e1 Rep.bl⟩
theorem zvs (a : EvB K G H₀ L ss te (.int i)) : Ev K G H₀ L ss (tCB (fun xs H Q => ∃ x, xs = [.int x, .ty "bool"] /\ Q (.bl false) H) (zbe te (zbe (tC (.ty "bool")) tNil))) (.bl false) := fun F H σ Q S q =>
 a F H σ _ S fun v F1 H1 e1 r1 => ⟨i, by rw [r1.of_int], q _ _ _ e1 Rep.bl⟩
end
end L2
namespace L2
open PySem PySem.W PySem.Spec PyProof.Rows PySem.Builtin PySem.Builtin.Str PySem.StrLaws
noncomputable def posL (z : Nat) : Nat -> List Nat -> List Nat
 | _, [] => []
 | a, x :: l => if x = z then a :: posL z (a + 1) l else posL z (a + 1) l
theorem zqb (pre l : List Nat) (z : Nat) : subAt (T (pre ++ l)) (T [z]) pre.length = decide (l.head? = some z) := by
 rw [Bool.eq_iff_iff, decide_eq_true_eq]
 have h := subAt_one (T (pre ++ l)) z pre.length
 have e : (⟨#[z]⟩ : Str) = T [z] := rfl
 rw [e] at h
 have hc : (T (pre ++ l)).cps.toList = pre ++ l := zdh _
 rw [hc] at h
 have hl : (T (pre ++ l)).length = pre.length + l.length := by rw [zbl, List.length_append]
 have hz : (T [z]).length = 1 := zbl _
 have hg : (pre ++ l)[pre.length]? = l.head? := by
  rw [List.getElem?_append_right (Nat.le_refl _), Nat.sub_self]; cases l <;> rfl
 rw [hg, hl, hz] at h
 constructor
 ·intro hs
  by_cases hl0 : l = []
  ·subst hl0
   exfalso
   unfold subAt at hs
   simp [T, Str.length] at hs
  ·have : 1 <= l.length := by cases l with | nil => exact absurd rfl hl0 | cons _ _ => simp
   exact h.mp ⟨by lia, hs⟩
 ·intro hs
  exact (h.mpr hs).2
theorem zfw (z : Nat) (n : Nat) : ∀ (l pre : List Nat) (free : Nat) (acc : Array Nat), free <= pre.length ->
  (forIn (List.range' pre.length (l.length + 1)) (acc, free) (occBody (T (pre ++ l)) (T [z]) (pre.length + l.length) n)).run.fst.toList = acc.toList ++ (posL z pre.length l).take (n - acc.size)
 | [], pre, free, acc, hf => by
  rw [List.length_nil, Nat.zero_add, List.range'_succ, List.range'_zero, List.forIn_cons]
  unfold occBody
  rw [if_neg (by rintro ⟨⟨_, h⟩, _⟩; rw [zbl] at h; simp at h; lia)]
  show acc.toList = _
  simp [posL]
 | x :: l, pre, free, acc, hf => by
  rw [List.length_cons, List.range'_succ, List.forIn_cons]
  have hs := zqb pre (x :: l) z
  have e2 : pre ++ x :: l = (pre ++ [x]) ++ l := by simp
  have e3 : pre.length + (l.length + 1) = (pre ++ [x]).length + l.length := by simp; lia
  have e4 : pre.length + 1 = (pre ++ [x]).length := by simp
  have hz : (T [z]).length = 1 := zbl _
  conv => lhs; unfold occBody
  by_cases hx : x = z
  ·have hs' : subAt (T (pre ++ x :: l)) (T [z]) pre.length = true := by rw [hs]; simp [hx]
   by_cases hn : acc.size < n
   ·rw [if_pos ⟨⟨⟨hn, hf⟩, by rw [hz]; lia⟩, hs'⟩]
    show (forIn (List.range' (pre.length + 1) (l.length + 1)) (acc.push pre.length, pre.length + (T [z]).length) (occBody (T (pre ++ x :: l)) (T [z]) (pre.length + (l.length + 1)) n)).run.fst.toList = _
    rw [e2, e3, e4, zfw z n l (pre ++ [x]) _ _ (by rw [hz]; simp)]
    rw [posL, if_pos hx, Array.toList_push, Array.size_push, <- e4]
    rw [show n - acc.size = (n - (acc.size + 1)) + 1 by lia, List.take_succ_cons, List.append_assoc]
    rfl
   ·rw [if_neg (by rintro ⟨⟨⟨h, _⟩, _⟩, _⟩; exact hn h)]
    show (forIn (List.range' (pre.length + 1) (l.length + 1)) (acc, free) (occBody (T (pre ++ x :: l)) (T [z]) (pre.length + (l.length + 1)) n)).run.fst.toList = _
    rw [e2, e3, e4, zfw z n l (pre ++ [x]) _ _ (by simp; lia), show n - acc.size = 0 by lia]
    simp
  ·have hs' : ¬ subAt (T (pre ++ x :: l)) (T [z]) pre.length = true := by rw [hs]; simp [hx]
   rw [if_neg (by rintro ⟨_, h⟩; exact hs' h)]
   show (forIn (List.range' (pre.length + 1) (l.length + 1)) (acc, free) (occBody (T (pre ++ x :: l)) (T [z]) (pre.length + (l.length + 1)) n)).run.fst.toList = _
   rw [e2, e3, e4, zfw z n l (pre ++ [x]) _ _ (by simp; lia), posL, if_neg hx, <- e4]
theorem zv5 (z n : Nat) (l : List Nat) : occurrences (T l) (T [z]) 0 (T l).length n = (posL z 0 l).take n := by
 rw [occ_eq, zbl]
 have := zfw z n l [] 0 #[] (Nat.le_refl _)
 simpa using this
noncomputable def zao (z : Nat) : Nat -> List Nat -> List (List Nat)
 | 0, l => [l]
 | n + 1, l => match l.dropWhile (· != z) with
  | [] => [l]
  | _ :: b => l.takeWhile (· != z) :: zao z n b
noncomputable def zm8 (s : Str) : Nat -> List Nat -> List Str
 | a, [] => [strSub s a s.length]
 | a, p :: r => strSub s a p :: zm8 s (p + 1) r
theorem zhg (s : Str) : ∀ (ps : List Nat) (a : Nat), (((a :: ps.map (· + 1)).zip (ps ++ [s.length])).map fun (i, j) => strSub s i j) = zm8 s a ps
 | [], a => rfl
 | p :: r, a => by
  show strSub s a p :: _ = strSub s a p :: _
  rw [<- zhg s r (p + 1)]
  rfl
theorem zf2 (a b c : List Nat) : strSub (T (a ++ b ++ c)) a.length (a.length + b.length) = T b := by
 unfold strSub T
 congr 1
 apply Array.toList_inj.mp
 simp [List.take_append]
theorem zmf {z : Nat} : ∀ {l : List Nat} (a : Nat), z ∉ l -> posL z a l = []
 | [], _, _ => rfl
 | x :: l, a, h => by
  rw [posL, if_neg (fun e => h (by simp [e])), zmf _ fun h' => h (List.mem_cons_of_mem _ h')]
theorem zrg {z : Nat} : ∀ (l b : List Nat) (a : Nat), z ∉ l -> posL z a (l ++ z :: b) = (a + l.length) :: posL z (a + l.length + 1) b
 | [], b, a, _ => by simp [posL]
 | x :: l, b, a, h => by
  rw [List.cons_append, posL, if_neg (fun e => h (by simp [e])), zrg l b (a + 1) fun h' => h (List.mem_cons_of_mem _ h')]
  rw [List.length_cons, show a + 1 + l.length = a + (l.length + 1) by lia]
theorem zc4 {z : Nat} : ∀ l : List Nat, (l.dropWhile (· != z) = [] /\ z ∉ l) \/ ∃ b, l.dropWhile (· != z) = z :: b /\ l = l.takeWhile (· != z) ++ z :: b /\ z ∉ l.takeWhile (· != z)
 | [] => .inl ⟨rfl, by simp⟩
 | x :: l => by
  by_cases hx : x = z
  ·subst hx; exact .inr ⟨l, by simp, by simp, by simp⟩
  ·have e1 : (x :: l).dropWhile (· != z) = l.dropWhile (· != z) := by simp [List.dropWhile_cons, hx]
   have e2 : (x :: l).takeWhile (· != z) = x :: l.takeWhile (· != z) := by simp [List.takeWhile_cons, hx]
   rw [e1, e2]
   rcases zc4 (z:=z) l with ⟨h1, h2⟩ | ⟨b, h1, h2, h3⟩
   ·exact .inl ⟨h1, by simp [h2]; exact fun e => hx e.symm⟩
   ·refine .inr ⟨b, h1, by rw [List.cons_append, <- h2], ?_⟩
    simp only [List.mem_cons, not_or]
    exact ⟨fun e => hx e.symm, h3⟩
theorem zhr (z : Nat) : ∀ (n : Nat) (pre l : List Nat), zm8 (T (pre ++ l)) pre.length ((posL z pre.length l).take n) = (zao z n l).map T
 | 0, pre, l => by
  have := zf2 pre l []
  rw [List.append_nil] at this
  show [strSub (T (pre ++ l)) pre.length (T (pre ++ l)).length] = [T l]
  rw [zbl, List.length_append, this]
 | n + 1, pre, l => by
  rcases zc4 (z:=z) l with ⟨h1, h2⟩ | ⟨b, h1, h2, h3⟩
  ·rw [zmf _ h2, zao, h1]
   have := zf2 pre l []
   rw [List.append_nil] at this
   show [strSub (T (pre ++ l)) pre.length (T (pre ++ l)).length] = [T l]
   rw [zbl, List.length_append, this]
  ·have e : zao z (n + 1) l = l.takeWhile (· != z) :: zao z n b := by rw [zao, h1]
   rw [e]
   generalize l.takeWhile (· != z) = a at h2 h3
   subst h2
   rw [zrg _ _ _ h3, List.take_succ_cons]
   show strSub _ pre.length (pre.length + a.length) :: zm8 _ (pre.length + a.length + 1) _ = T a :: (zao z n b).map T
   have e1 := zf2 pre a (z :: b)
   rw [List.append_assoc] at e1
   rw [e1]
   congr 1
   have := zhr z n (pre ++ a ++ [z]) b
   have e2 : pre ++ a ++ [z] ++ b = pre ++ (a ++ z :: b) := by simp
   have e3 : (pre ++ a ++ [z]).length = pre.length + a.length + 1 := by simp; lia
   rw [e2, e3] at this
   exact this
theorem zgd (z n : Nat) (l : List Nat) : partsBetween (T l) (occurrences (T l) (T [z]) 0 (T l).length n) (T [z]).length = (zao z n l).map T := by
 have e := zhg (T l) ((posL z 0 l).take n) 0
 have h := zhr z n [] l
 rw [zv5, zbl]
 unfold partsBetween
 exact e.trans h
theorem zcd (z : Nat) : ∀ n l, (zao z n l).length <= n + 1
 | 0, l => Nat.le_refl _
 | n + 1, l => by
  unfold zao
  split
  ·simp
  ·rw [List.length_cons]; have := zcd z n ‹_›; lia
end L2
namespace L2
open PySem PySem.W PySem.Spec PyProof.Rows PySem.Builtin PySem.Builtin.Str
noncomputable def zo1 : V -> List V -> Hp -> VK -> Prop := fun x vs H Q => ∃ (l : List Nat) (z : Nat) (k : Int), x = .str (T l) /\ vs = [.str (T [z]), .int k] /\ 0 <= k /\ k < 1000 /\ z < 128 /\ (∀ c ∈ l, c < 128) /\ l.length <= sizeLine /\ ∀ p, H p = none -> Q (.ref p) (upd H p (.lst (((zao z k.toNat l).map T).map V.str)))
theorem zm1 {l : List Nat} (h : ∀ c ∈ l, c < 128) : PySem.Builtin.Str.strKind (T l) = 1 := by
 unfold PySem.Builtin.Str.strKind
 rw [if_pos]
 rw [Array.all_eq_true_iff_forall_mem]
 intro c hc
 have : c ∈ l := by simpa [T] using hc
 have := h c this
 simp; lia
theorem zqm {X : Cx} : MtR X "str.split" zo1 := by
 intro pins s σ H x xs v us Q I rx rs h
 obtain ⟨l, z, k, rfl, rfl, hk0, hk1, hz, hl, hlen, q⟩ := h
 obtain ⟨t, rfl⟩ := rx
 obtain ⟨u1, u2, rfl, ⟨u, rfl⟩, ⟨u', rfl⟩⟩ := zke rs
 have hk : (decide (k < -(2 ^ 63 : Int)) || decide (k ≥ 2 ^ 63)) = false := by simp; lia
 have hlim : limitOf (T l) k = k.toNat := by unfold limitOf; rw [if_neg (by lia)]
 have hpl := zcd z k.toNat l
 have fin : ∀ (zs : List (Str × Tok)) (m : Nat), zs.map (·.1) = (zao z k.toNat l).map T ->
   EP X pins σ Q (.ref s.heap.objs.size) { s with heap := s.heap.push { cls := .type "list", data := .seq (strValues zs).toArray }, toks := m } := fun zs m e => by
  have v1 := zgw zs
  rw [e] at v1
  exact ⟨.ref s.heap.objs.size, _, I.lnew v1 (by rw [List.length_map, List.length_map, sizeLine_eq]; lia), rfl, q _ I.fresh⟩
 have hp := zgd z k.toNat l
 have k1 : PySem.Builtin.Str.strKind (T l) = 1 := zm1 hl
 have k2 : PySem.Builtin.Str.strKind (T [z]) = 1 := zm1 (by intro c hc; rw [List.mem_singleton.mp hc]; exact hz)
 cases h1 : (decide ((T l).length < (T [z]).length) || decide (PySem.Builtin.Str.strKind (T l) < PySem.Builtin.Str.strKind (T [z])))
 ·cases hf : (occurrences (T l) (T [z]) 0 (T l).length (limitOf (T l) k)).isEmpty
  ·refine call_meets F.slot_str_split (typeIs_str _ _ _) F.entry_str_split (F.args_str_split_3 _ _ _) (meets_str_split_sep_max (T l) (T [z]) k t u u' hk h1 (by rw [zbl]; rfl) hf (by rw [zbl]; exact hlen) (by rw [hlim, hp, List.length_map, sizeLine_eq]; lia)) ?_
   rw [strsFrom_eq]
   exact fin (numbered s.toks _) _ ((numbered_texts _ _).trans (by rw [hlim]; exact hp))
  ·refine call_meets F.slot_str_split (typeIs_str _ _ _) F.entry_str_split (F.args_str_split_3 _ _ _) (meets_str_split_max_not_found (T l) (T [z]) k t u u' hk h1 (by rw [zbl]; rfl) hf) (fin [(T l, t)] s.toks ?_)
   rw [<- hp, <- hlim]
   have : occurrences (T l) (T [z]) 0 (T l).length (limitOf (T l) k) = [] := List.isEmpty_iff.mp hf
   rw [this]
   have := zf2 [] l []
   simp only [List.nil_append, List.append_nil, List.length_nil, Nat.zero_add] at this
   show [T l] = [strSub (T l) 0 (T l).length]
   rw [zbl, this]
 ·refine call_meets F.slot_str_split (typeIs_str _ _ _) F.entry_str_split (F.args_str_split_3 _ _ _) (meets_str_split_max_cannot_occur (T l) (T [z]) k t u u' hk h1) (fin [(T l, t)] s.toks ?_)
  rw [k1, k2, zbl, zbl] at h1
  simp at h1
  subst h1
  cases k.toNat <;> rfl
theorem zgm {z c : Nat} : ∀ {n : Nat} {l p : List Nat}, p ∈ zao z n l -> c ∈ p -> c ∈ l
 | 0, l, p, h, hc => by rw [zao, List.mem_singleton] at h; subst h; exact hc
 | n + 1, l, p, h, hc => by
  rcases zc4 (z:=z) l with ⟨h1, h2⟩ | ⟨b, h1, h2, h3⟩
  ·rw [zao, h1] at h
   have h : p ∈ [l] := h
   rw [List.mem_singleton] at h; subst h; exact hc
  ·rw [zao, h1] at h
   have h : p ∈ l.takeWhile (· != z) :: zao z n b := h
   rw [h2]
   rcases List.mem_cons.mp h with h | h
   ·subst h; exact List.mem_append_left _ hc
   ·exact List.mem_append_right _ (List.mem_cons_of_mem _ (zgm h hc))
theorem zln {z : Nat} {a b c : List Nat} (ha : z ∉ a) (hb : z ∉ b) : zao z 2 (a ++ z :: (b ++ z :: c)) = [a, b, c] := by
 have tw : ∀ (x y : List Nat), z ∉ x -> (x ++ z :: y).dropWhile (· != z) = z :: y /\ (x ++ z :: y).takeWhile (· != z) = x := by
  intro x y hx
  induction x with
  | nil => simp
  | cons w x ih =>
   have hw : w ≠ z := fun e => hx (by simp [e])
   have := ih fun h => hx (List.mem_cons_of_mem _ h)
   rw [List.cons_append, List.dropWhile_cons, List.takeWhile_cons]
   simp [hw, this]
 have s1 : zao z 2 (a ++ z :: (b ++ z :: c)) = a :: zao z 1 (b ++ z :: c) := by
  rw [zao, (tw a _ ha).1, (tw a _ ha).2]
 have s2 : zao z 1 (b ++ z :: c) = b :: zao z 0 c := by
  conv => lhs; rw [zao, (tw b _ hb).1, (tw b _ hb).2]
 rw [s1, s2]; rfl
section
variable {K : PySem.W.Frag} {G H₀ L : Hp} {ss : List Sl} {ta tb tc t1 t2 te : TE} {ds : List D}
theorem zv1 {H : Hp} : ∀ {ls : List (List Nat)}, (∀ l ∈ ls, ∀ c ∈ l, c < 128) -> Reps K H (ls.map D.str) ((ls.map T).map V.str)
 | [], _ => Reps.nil
 | l :: ls, h => Reps.cons (Rep.str (h l List.mem_cons_self)) (zv1 fun m hm => h m (List.mem_cons_of_mem _ hm))
theorem zn3 {l : List Nat} {z : Nat} {k : Int} (a : EvB K G H₀ L ss ta (.str l)) (b : EvB K G H₀ L ss t1 (.str [z])) (c : EvB K G H₀ L ss t2 (.int k)) (hk : 0 <= k /\ k < 1000) (hl : l.length <= sizeLine) : EvO K G H₀ L ss (tBM K "str" zo1 ta (zbe t1 (zbe t2 tNil))) ((zao z k.toNat l).map D.str) := fun F H σ Q S q =>
 a F H σ _ S fun v F1 H1 e1 r1 => by
  rw [r1.of_str]
  refine ⟨rfl, b F1 H1 σ _ (S.ext2 e1) fun v2 F2 H2 e2 r2 => c F2 H2 σ _ ((S.ext2 e1).ext2 e2) fun v3 F3 H3 e3 r3 => ?_⟩
  have ha := r1.asc
  have hz := r2.asc
  rw [r2.of_str, r3.of_int]
  refine ⟨l, z, k, rfl, rfl, hk.1, hk.2, hz z (by simp), ha, hl, fun p hp => ?_⟩
  have e := (e1.trans e2).trans e3
  exact q p _ F3 _ (e.newO hp) (e.hh.free hp) (e.fh.free hp) zal (zv1 fun m hm c hc => ha c (zgm hm hc))
theorem znf (a : EvL K G H₀ L ss te ds) (hz : ds.length <= sizeLine) : Ev K G H₀ L ss (tCB (fun xs H Q => ∃ p ys, xs = [.ref p] /\ ((SqL K H p ys /\ ∀ l, H l = none -> Q (.ref l) (upd H l (.tup ys))) \/ (SqT K H p ys /\ Q (.ref p) H))) (zbe te tNil)) (.tup ds) := fun F H σ Q S q =>
 a F H σ _ S fun p vs F' H' e sq r => ⟨p, vs, rfl, .inl ⟨sq, fun l hl => by
  exact q _ _ _ (e.newF hl) (Rep.tup (SqT.of zal) (r.mono (Same.upd (e.fh.free hl))))⟩⟩
end
end L2
namespace L2
open PySem PySem.W PySem.Spec PyProof.Rows
section
variable {X : Cx}
noncomputable def rLeS : R2 := fun x y H Q => ∃ i j, x = .str i /\ y = .str j /\ Q (.bl (!decide (j.cps.toList < i.cps.toList))) H
theorem zkl : OpR X (compareOp .LtE) rLeS := by
 intro pins s σ H x y v u Q I rx ry h
 obtain ⟨i, j, rfl, rfl, q⟩ := h
 obtain ⟨t, rfl⟩ := rx
 obtain ⟨t', rfl⟩ := ry
 exact compareOp_gives (op:=.LtE) (typeIs_str s i t) (typeIs_str s j t') F.slot_str_le F.entry_str_le (F.args_str_le_2 _ _) (gives_str_le i j t t') (fun e => nomatch e) (zaz I q rfl)
end
section
variable {α : Type} {K : PySem.W.Frag} {G H₀ L : Hp} {ss : List Sl} {ta tb tc te : TE} {t : TA} {ds : List D} {E : XK} {pre : α -> List D -> Prop} {res : α -> D}
theorem zj6 {i j k : Int} (a : EvB K G H₀ L ss ta (.int i)) (b : EvB K G H₀ L ss tb (.int j)) (c : EvB K G H₀ L ss tc (.int k)) : Ev K G H₀ L ss (zl9 (rI0 fun i j => .bl (decide (i <= j))) (rI0 fun i j => .bl (decide (i <= j))) ta tb tc) (.bl (decide (i <= j) && decide (j <= k))) := fun F H σ Q S q =>
 a F H σ _ S fun v F1 H1 e1 r1 => b F1 H1 σ _ (S.ext2 e1) fun v2 F2 H2 e2 r2 => by
  rw [r1.of_int, r2.of_int]
  refine ⟨i, j, rfl, rfl, _, rfl, ?_⟩
  by_cases h : i <= j
  ·rw [if_pos (decide_eq_true h)]
   refine c F2 H2 σ _ ((S.ext2 e1).ext2 e2) fun v3 F3 H3 e3 r3 => ?_
   rw [r3.of_int]
   refine ⟨j, k, rfl, rfl, q _ F3 H3 ((e1.trans e2).trans e3) ?_⟩
   rw [decide_eq_true h, Bool.true_and]; exact Rep.bl
  ·rw [if_neg (by rw [decide_eq_false h]; decide)]
   refine q _ F2 H2 (e1.trans e2) ?_
   rw [decide_eq_false h, Bool.false_and]; exact Rep.bl
theorem zqo {i j k : List Nat} (a : EvB K G H₀ L ss ta (.str i)) (b : EvB K G H₀ L ss tb (.str j)) (c : EvB K G H₀ L ss tc (.str k)) : Ev K G H₀ L ss (zl9 rLeS rLeS ta tb tc) (.bl (!decide (j < i) && !decide (k < j))) := fun F H σ Q S q =>
 a F H σ _ S fun v F1 H1 e1 r1 => b F1 H1 σ _ (S.ext2 e1) fun v2 F2 H2 e2 r2 => by
  rw [r1.of_str, r2.of_str]
  refine ⟨T i, T j, rfl, rfl, _, rfl, ?_⟩
  rw [zdh, zdh]
  by_cases h : j < i
  ·rw [if_neg (by rw [decide_eq_true h]; decide)]
   refine q _ F2 H2 (e1.trans e2) ?_
   rw [decide_eq_true h]; exact Rep.bl
  ·rw [if_pos (by rw [decide_eq_false h]; rfl)]
   refine c F2 H2 σ _ ((S.ext2 e1).ext2 e2) fun v3 F3 H3 e3 r3 => ?_
   rw [r3.of_str]
   refine ⟨T j, T k, rfl, rfl, q _ F3 H3 ((e1.trans e2).trans e3) ?_⟩
   rw [decide_eq_false h, zdh, zdh]; exact Rep.bl
theorem zyd {c : Nat} (a : EvB K G H₀ L ss te (.str [c])) : Ev K G H₀ L ss (tCB (fun xs H Q => ∃ x : Str, xs = [.str x] /\ x.length = 1 /\ Q (.int (x.cps.getD 0 0 : Nat)) H) (zbe te tNil)) (.int c) := fun F H σ Q S q =>
 a F H σ _ S fun v F1 H1 e1 r1 => ⟨T [c], by rw [r1.of_str], zbl _, q _ _ _ e1 Rep.int⟩
theorem zx5 {c : Nat} {l : List Nat} (a : EvB K G H₀ L ss ta (.str [c])) (b : EvB K G H₀ L ss tb (.str l)) : Ev K G H₀ L ss (tOp (fun x y H Q => ∃ i j, x = .str i /\ y = .str j /\ Q (.bl (!(Builtin.Str.occurrences j i 0 j.length 1).isEmpty)) H) ta tb) (.bl (decide (c ∈ l))) := fun F H σ Q S q =>
 a F H σ _ S fun v F1 H1 e1 r1 => b F1 H1 σ _ (S.ext2 e1) fun v2 F2 H2 e2 r2 => by
  rw [r1.of_str, r2.of_str]
  refine ⟨T [c], T l, rfl, rfl, ?_⟩
  have := StrLaws.found_one (T l) c
  rw [zdh] at this
  rw [show T [c] = ⟨#[c]⟩ from rfl, this]
  exact q _ F2 H2 (e1.trans e2) Rep.bl
end
section
variable {K : PySem.W.Frag} {G H₀ L : Hp} {ss : List Sl}
theorem zks (l : List Nat) (f : Nat -> D) {tl : TE} {g : TG} {te : TE} {nt : Nat} {cs : List Nat} (a : EvB K G H₀ L ss tl (.str l)) (hk : GK nt g) (hc : cs.Nodup) (hz : l.length < sizeLine)
  (hs : ∀ c ∈ l, ∃ ss', Tg K G H₀ L g (.str [c]) (lcSl nt cs ss) ss' /\ Ev K G H₀ L ss' te (f c)) :
  EvO K G H₀ L ss (tLC nt cs (iStr tl) g zg0 te) (l.map f) := by
 have := ziw (p:=fun _ => true) (f:=fun i => f (l.getD i 0)) (tt:=zg0) (te:=te) (zvc a) hk hc hz (fun i hi => by
  have hm : l.getD i 0 ∈ l := by rw [List.getD_eq_getElem?_getD, List.getElem?_eq_getElem hi]; exact List.getElem_mem hi
  obtain ⟨ss', h1, h2⟩ := hs _ hm
  exact ⟨ss', h1, zml, fun _ => h2⟩)
 have e := zme l 0 (fun _ => true) f
 rw [show l.filter (fun _ => true) = l from List.filter_eq_self.mpr (by simp)] at e
 rw [<- e]; exact this
end
end L2
namespace L2
open PySem PySem.W PySem.Spec PyProof.Rows
noncomputable def D.isK : D -> Bool
 | .int _ => true | .str _ => true | _ => false
noncomputable def D.key : D -> Key
 | .int i => .inl i | .str l => .inr (T l) | _ => .inl 0
noncomputable abbrev DD := List (D × D)
inductive Dks (K : PySem.W.Frag) (F : Hp) : DD -> List (Key × V) -> Prop
 | nil : Dks K F [] []
 | cons {k d : D} {v : V} {kvs : DD} {xs : List (Key × V)} (hk : k.isK = true) (hr : Rep K F k (kV k.key)) (r : Rep K F d v) (t : Dks K F kvs xs) : Dks K F ((k, d) :: kvs) ((k.key, v) :: xs)
end L2
namespace L2
open PySem PySem.Spec PyProof.Rows
end L2
namespace L2
open PySem PySem.W PySem.Spec PyProof.Rows
noncomputable abbrev KQ := List (D × Addr × List D)
end L2
namespace L2
open PySem PySem.Spec PyProof.Rows
end L2
namespace L2
open PySem PySem.W PySem.Spec PyProof.Rows
end L2
namespace L2
open PySem PySem.Spec PyProof.Rows
end L2
namespace L2
open PySem PySem.Spec PyProof.Rows
open AutoSeq1 (wpAny_loadPart')
theorem zg4 (a b : Value) : checkTypeCall "enumerate" ⟨[a], [("start", b)]⟩ = pure () := by kernel_rfl
theorem zif (a b : Value) : checkBuiltinCall "enumerate.__new__" ⟨[.type "enumerate", a], [("start", b)]⟩ = pure () := by kernel_rfl
theorem zlc (l : Addr) (items : Array Value) (n : Nat) (dct : Option Addr) (sl : Array (Option Value)) (t : Tok) :
  Meets (Builtin.«enumerate.__new__» ⟨[.type "enumerate", .ref l], [("start", .int 1 t)]⟩) (fun _ R s => s.heap.get? l = some { cls := .type "list", dict := dct, data := .seq items n, slots := sl } /\
   R (.ok (.ret (.ref (s.heap.push { cls := .type "list_iterator", data := .fields #[.ref l, .int 0 0] }).objs.size)))
    { s with heap := (s.heap.push { cls := .type "list_iterator", data := .fields #[.ref l, .int 0 0] }).push { cls := .type "enumerate", data := .fields #[.none, .bool false, .ref s.heap.objs.size, rawInt 1, .none, .none] } }) :=
 .of_wp fun prog w A R s h => by
  obtain ⟨hp, g, d, tk, os⟩ := s
  obtain ⟨hl, h⟩ := h
  have hsub := sub_enumerate; have hL : Heap.IsList (Shared.heap ⟨hp, g, d, tk, os⟩) l items := ⟨_, hl, rfl, n, rfl⟩
  wp_walk using wpAny_loadPart' hl
  refine wpAny_stack_any fun st => wpAny_pure ?_
  split
  ·rename_i c _ _ _ _ _
   cases (c == Value.type "enumerate") <;> (wp_walk using wpAny_loadPart' hl, wpAny_pyIter_list hL; exact ⟨_, rfl, h⟩)
  ·wp_walk using wpAny_loadPart' hl, wpAny_pyIter_list hL
   exact ⟨_, rfl, h⟩
noncomputable abbrev zn0 (h : Heap) (l : Addr) : Heap := (h.push { cls := .type "list_iterator", data := .fields #[.ref l, .int 0 0] }).push { cls := .type "enumerate", data := .fields #[.none, .bool false, .ref h.objs.size, rawInt 1, .none, .none] }
theorem zg6 (a b c : Value) : argsOk "object.__init__" ⟨[a, b], [("start", c)]⟩ := by unfold argsOk; kernel_rfl
theorem zof (obj a c : Value) : Meets (Builtin.«object.__init__» ⟨[obj, a], [("start", c)]⟩) (fun _ R s => s.TypeIs obj "enumerate" /\ R (.ok (.ret .none)) s) := by
 refine Meets.of_wp fun prog w A R s hs => ?_
 obtain ⟨hT, hq⟩ := hs
 have hl := F.called_enumerate.init.lookup; have hm := F.called_enumerate.made
 have hne : (some "enumerate.__new__" != some "object.__new__") = true := by decide
 repeat (any_goals (first | assumption | wp_step))
 exact ⟨_, rfl, hq⟩
section
variable {prog : Program} {w : World} {A : Around} {E : Value -> Shared -> Prop} {s : Shared}
theorem zqr {l : Addr} {items : Array Value} {t : Tok} {Q : Value -> Shared -> Prop} (hL : s.heap.IsList l items)
  (h : ∀ h', IsEnum h' (s.heap.objs.size + 1) s.heap.objs.size 1 .none -> h'.IsListIter s.heap.objs.size l 0 -> h'.objs.size = s.heap.objs.size + 2 ->
   (∀ b o, s.heap.get? b = some o -> h'.get? b = some o) -> Q (.ref (s.heap.objs.size + 1)) { s with heap := h' }) :
  wpAny (model prog w) A (call (.type "enumerate") [.ref l] [("start", .int 1 t)]) Q E s := by
 obtain ⟨⟨c, dct, dt, sl⟩, hl, hc, n, hd⟩ := hL
 replace hc : c = .type "list" := hc; replace hd : dt = .seq items n := hd
 subst hc hd
 have ft := F.called_enumerate
 obtain ⟨c, tl, hmro⟩ := ft.mro
 have hmade := ft.made; have hsub := ft.sub; have hct := zg4 (.ref l) (.int 1 t)
 refine wpAny_call (codeAny_of_tree ?_)
 show wpAny _ _ (callAny (.type "enumerate") _) _ _ _
 refine wpAny_pure ⟨Code.quiet_builtin _ (by decide +kernel), codeAny_builtin F.entry_type_call ?_⟩
 rw [Around.under_plain (weight_type_call_type "enumerate" [.ref l] _) (units_type_call_type "enumerate" [.ref l] _)]
 have h1 := ft.notType; have h2 := ft.canCreate
 repeat (any_goals (first | assumption | wp_step))
 have hz : (s.heap.push { cls := .type "list_iterator", data := .fields #[.ref l, .int 0 0] }).objs.size = s.heap.objs.size + 1 := Heap.size_push ..
 have he : IsEnum ((s.heap.push { cls := .type "list_iterator", data := .fields #[.ref l, .int 0 0] }).push
   { cls := .type "enumerate", data := .fields #[.none, .bool false, .ref s.heap.objs.size, rawInt 1, .none, .none] }) (s.heap.objs.size + 1) s.heap.objs.size 1 .none := by
  have := Heap.get?_push_size (s.heap.push { cls := .type "list_iterator", data := .fields #[.ref l, .int 0 0] })
   (o:={ cls := .type "enumerate", data := .fields #[.none, .bool false, .ref s.heap.objs.size, rawInt 1, .none, .none] }) rfl
  rw [hz] at this; exact this
 have hu := h _ he ⟨_, Heap.get?_push_of_some _ (Heap.get?_push_size _ rfl), rfl, rfl⟩ (by rw [Heap.size_push, hz]) fun b o x => Heap.get?_push_of_some _ (Heap.get?_push_of_some _ x)
 have hT : Shared.TypeIs { s with heap := zn0 s.heap l } (.ref (s.heap.objs.size + 1)) "enumerate" := ⟨_, he, rfl⟩
 have hm := zlc l items n dct sl t prog w A.in1 (fun r s' => r = .ok (.ret (.ref (s.heap.objs.size + 1))) /\ s' = { s with heap := zn0 s.heap l }) s ⟨hl, by rw [hz], rfl⟩
 refine codeAny_mono (codeAny_call_builtin (R:=fun r s' => r = .ok (.ret (.ref (s.heap.objs.size + 1))) /\ s' = { s with heap := zn0 s.heap l }) ft.plain F.entry_enumerate_new (wpAny_of_eq (zif _ _) hm)) fun r s₁ hr => ?_
 obtain ⟨rfl, rfl⟩ := hr
 have hli := ft.init.lookup; have hbi := ft.init.bind (.ref (s.heap.objs.size + 1))
 show wpAny _ _ _ _ _ _
 repeat (any_goals (first | assumption | wp_step))
 have hm2 := zof (.ref (s.heap.objs.size + 1)) (.ref l) (.int 1 t) prog w A.in1 (fun r s' => r = .ok (.ret .none) /\ s' = { s with heap := zn0 s.heap l }) { s with heap := zn0 s.heap l } ⟨hT, rfl, rfl⟩
 refine codeAny_mono (codeAny_call_builtin (R:=fun r s' => r = .ok (.ret .none) /\ s' = { s with heap := zn0 s.heap l }) ft.init.plain F.entry_object_init (ft.init.check _ _ _ _ _ _ _ _ hT (zg6 _ _ _) hm2)) fun r₂ s₂ hr₂ => ?_
 obtain ⟨rfl, rfl⟩ := hr₂
 show wpAny _ _ _ _ _ _
 repeat (any_goals (first | assumption | wp_step))
end
end L2
namespace L2
open PySem PySem.Spec PyProof.Rows
theorem zgv {prog : Program} {w : World} {A : Around} {it : Addr} {fp : List Addr} {n : Nat} {P : Nat -> Value -> Prop} {St : Nat -> Heap -> Prop} (D : Draws prog w A it fp n P St) :
  Draws prog w A it fp (n + 1) (fun i v => P (i - 1) v) (fun i h => 1 <= i /\ St (i - 1) h) where
 live := fun i h st => D.live _ _ st.2
 frame := fun i h h' st k => ⟨st.1, D.frame _ _ _ st.2 k⟩
 item := fun i s Q E hi st hQ => D.item (i - 1) s Q E (by omega) st.2 fun x h' tk a b c => hQ x h' tk a ⟨by lia, by rw [show i + 1 - 1 = (i - 1) + 1 by lia]; exact b⟩ c
 done := fun s Q E st hE => D.done s Q E (by simpa using st.2) hE
noncomputable def Ite1 (K : PySem.W.Frag) (a : Addr) : It :=
 ⟨fun i H => ∃ xs x, SqL K H a xs /\ xs[i]? = some x, fun i H x H' => ∃ T0 vs, x = .ref T0 /\ H T0 = none /\ H' = upd H T0 (.tup vs) /\ ∀ xs, SqL K H a xs -> ∃ y, xs[i]? = some y /\ vs = [.int ((i + 1 : Nat) : Int), y], fun i H => ∃ xs, SqL K H a xs /\ xs.length = i⟩
theorem zoj {P : Program} {w : World} {K : PySem.W.Frag} {elts : List Expr} {kk : Nat} {tp : Pos} (a it e : Addr) (hae : a ≠ e) (hai : a ≠ it) (hei : e ≠ it) :
  Turn P w K (.Tuple elts kk tp) (Ite1 K a) [e, it] e (fun i h => (∃ old, IsEnum h e it ((i + 1 : Nat) : Int) old) /\ h.IsListIter it a i) where
 mem := by simp
 obj := fun i h st b hb => by
  obtain ⟨⟨old, ho⟩, oi, hoi, _, hdi⟩ := st
  rcases List.mem_cons.mp hb with rfl | hb
  ·exact ⟨_, ho, fun v z => by cases z⟩
  ·rw [List.mem_singleton.mp hb]
   exact ⟨oi, hoi, fun v z => by rw [hdi] at z; cases z⟩
 keep := fun i h h' st k => ⟨let ⟨old, ho⟩ := st.1; ⟨old, k e (by simp) _ ho⟩, st.2.at fun o x => k it (by simp) o x⟩
 item := by
  intro X hP hw hK hc i pins s σ H E I hf st hg
  subst hP hw hK
  obtain ⟨xs, x, hq, hx⟩ := hg
  obtain ⟨its, rv, p, hz⟩ := I.list hq
  obtain ⟨u, hu, ru⟩ := rv.get hx
  have hil : i < its.length := (List.getElem?_eq_some_iff.mp hu).1
  have W0 := WalksT.enumerateD (A:=X.A) (zgv (Draws.list (prog:=X.prog) (w:=X.w) (A:=X.A.in1) (show X.A.in1.handled = none from I.ok.hd hc) it a hai its.toArray)) e hei (by simp [hei, Ne.symm hae]) (by simp)
  refine W0.item (i + 1) s _ _ (by simpa using hil) ⟨st.1, Nat.le_add_left _ _, st.2, p.isList⟩ fun T0 vals h1 tk hp hle ht mid kk => ?_
  obtain ⟨t, v, hv, rfl⟩ := hp
  have hv : its[i]? = some v := by simpa using hv
  rw [hu] at hv; cases hv
  have fresh : H T0 = none := I.hok.fresh hle
  have I1 : Inv X pins σ (upd H T0 (.tup [.int ((i + 1 : Nat) : Int), x])) { s with heap := h1, toks := tk } := I.turnsT (wr:=[e, it]) hf kk hle ht (.cons ⟨t, rfl⟩ (.cons ru .nil)) (by rw [sizeLine_eq]; simp)
  refine ⟨.ref T0, rfl, W0.go elts _ tp (i + 1) T0 _ _ _ mid fun h2 st2 k2 => ?_⟩
  have hlt : ∀ b ∈ [e, it], b ≠ T0 := fun b hb z => by
   obtain ⟨⟨old, ho⟩, oi, hoi, _, hdi⟩ := st
   rcases List.mem_cons.mp hb with rfl | hb
   ·exact absurd (Nat.lt_of_lt_of_le (Heap.lt_size ho) (z ▸ hle)) (Nat.lt_irrefl _)
   ·rw [List.mem_singleton.mp hb] at z
    exact absurd (Nat.lt_of_lt_of_le (Heap.lt_size hoi) (z ▸ hle)) (Nat.lt_irrefl _)
  have hf1 : ∀ b ∈ [e, it], FpOk X pins (upd H T0 (.tup [.int ((i + 1 : Nat) : Int), x])) b := fun b hb => ⟨by rw [zaj (hlt b hb)]; exact (hf b hb).1, (hf b hb).2⟩
  exact ⟨.ref T0, _, I1.turns (t':=tk) hf1 k2, rfl, ⟨T0, _, rfl, fresh, rfl, fun ys hy => ⟨x, by rw [I.list_inj hy hq]; exact hx, rfl⟩⟩, ⟨st2.1, st2.2.2.1⟩, fun b hb => by rw [zaj (hlt b hb)]; exact (hf b hb).1⟩
 done := by
  intro X hP hw hK hc i pins s σ H E I hf st hg
  subst hP hw hK
  obtain ⟨xs, hq, hx⟩ := hg
  obtain ⟨its, rv, p, hz⟩ := I.list hq
  have hl := rv.length
  have hs : its.toArray.size = i := by simp; lia
  have W0 := WalksT.enumerateD (A:=X.A) (zgv (Draws.list (prog:=X.prog) (w:=X.w) (A:=X.A.in1) (show X.A.in1.handled = none from I.ok.hd hc) it a hai its.toArray)) e hei (by simp [hei, Ne.symm hae]) (by simp)
  rw [hs] at W0
  exact W0.done s _ _ ⟨st.1, Nat.le_add_left _ _, st.2, p.isList⟩ fun h1 tk kk => ⟨rfl, I.turns (wr:=[e, it]) hf kk⟩
 self := fun A i s Q E st h => wpAny_pyIter_enum st.1.choose_spec h
section
variable {M : Model} {A : Around} {E : Value -> Shared -> Prop} {s : Shared} {env : Env}
theorem zgj {pos : Pos} {T : String} {e : Expr} {rest : List Expr} {kws : List Keyword} {Q : Value -> Shared -> Prop}
  (h : wpAny M A (spliced (backTo pos (starEach (e :: rest) env))) (fun vs s₁ => wpAny M A (evalAll ((backToKw pos (keywordEach kws env)).map (·.2)))
   (fun kvs s₂ => wpAny M A (call (.type T) vs (((backToKw pos (keywordEach kws env)).filterMap (·.1)).zip kvs)) Q E s₂) E s₁) E s)
  (he : backTo pos (starEach (e :: rest) env) = (false, eval e env) :: backTo pos (starEach rest env)) (hplain : (backTo pos (starEach (e :: rest) env)).any (·.1) = false)
  (hall : (backToKw pos (keywordEach kws env)).all (·.1.isSome) = true) (hkw : (backToKw pos (keywordEach kws env)).any (·.1.isNone) = false) :
  wpAny M A (callWith pos (.type T) [] (backTo pos (starEach (e :: rest) env)) (backToKw pos (keywordEach kws env))) Q E s := by
 have h2 : wpAny M A (evalArgs (.type T) true (backTo pos (starEach (e :: rest) env)) (backToKw pos (keywordEach kws env))) (fun a s₁ => wpAny M A (call (.type T) ([] ++ a.pos) a.kw) Q E s₁) E s := by
  rw [he] at h ⊢
  exact evalArgs_kwB hall h
 unfold callWith
 refine wpAny_bind (wpAny_holding (wpAny_mono h2 (fun a s₁ h₁ => wpAny_bind (wpAny_standAt ?_)) fun _ _ x => x))
 simp only [hplain, hkw, Bool.or_false]; refine wpAny_bind (wpAny_pure ?_)
 exact wpAny_bind (wpAny_mono h₁ (fun r s₂ hr => wpAny_bind (wpAny_holding (wpAny_point (wpAny_pure hr)))) fun _ _ x => x)
end
section
variable {X : Cx} {e ke : Expr} {ta : TA} {elts : List Expr} {kk : Nat} {tp p pos kp : Pos}
noncomputable def iEn1 (K : PySem.W.Frag) (ta : TA) : TI := fun σ H R => ta σ H fun vs H1 => ∃ a, vs = [.ref a] /\ (∃ xs, SqL K H1 a xs) /\ R (Ite1 K a) H1
theorem zr3 (hg : Gl X "enumerate") (hm : X.mg "enumerate" = none) (hA : PA X [e] ta) (hk : PE X ke (tC (.int 1))) (hs : starEach [e] X.env = [(false, eval e X.env)] := by rfl) :
  PI X (.Tuple elts kk tp) (.Call (.Name "enumerate" p) [e] [⟨some "start", ke, kp⟩] pos) (iEn1 X.K ta) := by
 intro pins s σ H R I h
 refine wpAny_Call_Name_kw (zkc I hg hm boot_enumerate ?_)
 refine zgj (rest:=[]) (thn (hA pos pins s σ H _ I h) fun us s1 hz9 => ?_) (by rw [hs]; rfl) (by rw [hs]; rfl) rfl rfl
 obtain ⟨vs, H1, I1, r1, q1⟩ := hz9
 obtain ⟨a, rfl, hl, q⟩ := q1
 refine thn (zu8 hk zw8 pos pins s1 σ H1 (fun zs H2 => zs = [.int 1] /\ H2 = H1) I1 ⟨rfl, rfl⟩) fun ws s2 hz9 => ?_
 obtain ⟨zs, H2, I2, r2, e2, e3⟩ := hz9
 subst e2 e3
 obtain ⟨w', rfl, rw'⟩ := zfo r2
 obtain ⟨t, rfl⟩ := rw'
 obtain ⟨u, rfl, ru⟩ := zfo r1
 cases ru
 obtain ⟨xs, hq⟩ := hl
 obtain ⟨its, rv, p, hz⟩ := I2.list hq
 refine zqr p.isList fun h1 hen hit hsz hk => ?_
 have I3 : Inv X pins σ H2 { s2 with heap := h1 } := I2.kept (t':=s2.toks) hk
 refine wpAny_pyIter_enum hen ?_
 have hlt : a < s2.heap.objs.size := by obtain ⟨o, ho, _⟩ := p.isList; exact Heap.lt_size ho
 refine ⟨s2.heap.objs.size + 1, [s2.heap.objs.size + 1, s2.heap.objs.size], _, _, H2, rfl, I3, zoj a s2.heap.objs.size (s2.heap.objs.size + 1) (Nat.ne_of_lt (Nat.lt_succ_of_lt hlt)) (Nat.ne_of_lt hlt) (Nat.succ_ne_self _), ⟨⟨_, hen⟩, hit⟩, fun b hb => ?_, q⟩
 rcases List.mem_cons.mp hb with rfl | hb
 ·exact I2.fpOk (Nat.le_succ _) (I2.hok.fresh (Nat.le_succ _))
 ·rw [List.mem_singleton.mp hb]
  exact I2.fpOk (Nat.le_refl _) (I2.hok.fresh (Nat.le_refl _))
end
end L2
namespace L2
open PySem PySem.Spec PyProof.Rows PySem.Builtin PySem.Builtin.Str
section
variable {X : Cx}
noncomputable def zll : V -> List V -> Hp -> VK -> Prop := fun x vs H Q => ∃ (l : List Nat) (z : Nat), x = .str (T l) /\ vs = [.str (T [z])] /\ Q (.bl (decide (l.head? = some z))) H
theorem zr8 (l : List Nat) (z : Nat) : Txt.startswith (T l) (T [z]) = decide (l.head? = some z) := by
 have h := zqb [] l z
 rw [List.nil_append, List.length_nil] at h
 unfold Txt.startswith
 rw [h, zbl, zbl]
 cases l with
 | nil => rfl
 | cons x l => simp
theorem ziq : MtR X "str.startswith" zll := by
 intro pins s σ H x xs v us Q I rx rs h
 obtain ⟨l, z, rfl, rfl, q⟩ := h
 obtain ⟨t, rfl⟩ := rx
 obtain ⟨u, rfl, ru⟩ := Vals.one rs
 obtain ⟨u, rfl⟩ := ru
 refine SC.startswith ⟨.bl (decide (l.head? = some z)), H, I, ?_, q⟩
 rw [zr8]; rfl
end
noncomputable def zct (z : Nat) (l : List Nat) : List (List Nat) := zao z (l.length + 1) l
theorem zse {z : Nat} {l : List Nat} (hz : z < 128) (hl : ∀ c ∈ l, c < 128) : Txt.split (T l) (T [z]) = (zct z l).map T := by
 have hp := zgd z (l.length + 1) l
 have k1 : strKind (T l) = 1 := zm1 hl
 have k2 : strKind (T [z]) = 1 := zm1 (by intro c hc; rw [List.mem_singleton.mp hc]; exact hz)
 unfold Txt.split zct
 rw [zbl] at hp ⊢
 split
 ·rename_i h
  rw [k1, k2, zbl] at h
  simp at h
  subst h
  rfl
 ·split
  ·rename_i h2 h
   rw [<- hp]
   have e : occurrences (T l) (T [z]) 0 l.length (l.length + 1) = [] := List.isEmpty_iff.mp h
   rw [e]
   have := zf2 [] l []
   simp only [List.nil_append, List.append_nil, List.length_nil, Nat.zero_add] at this
   show [T l] = [strSub (T l) 0 (T l).length]
   rw [zbl, this]
  ·exact hp
theorem zog {z n : Nat} : ∀ {l : List Nat}, z ∉ l -> zao z n l = [l] := fun {l} h => by
 cases n with
 | zero => rfl
 | succ n =>
  rcases zc4 (z:=z) l with ⟨h1, _⟩ | ⟨b, _, h2, _⟩
  ·rw [zao, h1]
  ·exact absurd (by rw [h2]; simp) h
theorem zk7 {z n : Nat} {a b : List Nat} (ha : z ∉ a) : zao z (n + 1) (a ++ z :: b) = a :: zao z n b := by
 have tw : (a ++ z :: b).dropWhile (· != z) = z :: b /\ (a ++ z :: b).takeWhile (· != z) = a := by
  induction a with
  | nil => simp
  | cons w x ih =>
   have hw : w ≠ z := fun e => ha (by simp [e])
   have := ih fun h => ha (List.mem_cons_of_mem _ h)
   rw [List.cons_append, List.dropWhile_cons, List.takeWhile_cons]
   simp [hw, this]
 rw [zao, tw.1, tw.2]
theorem zho {z : Nat} : ∀ {ps : List (List Nat)} {n : Nat}, ps ≠ [] -> (∀ p ∈ ps, z ∉ p) -> ps.length <= n + 1 -> zao z n (glue [z] ps) = ps
 | [], _, h, _, _ => absurd rfl h
 | [p], n, _, hz, _ => by
  have : glue [z] [p] = p := rfl
  rw [this]; exact zog (hz p (by simp))
 | p :: q :: r, 0, _, _, hn => by simp at hn
 | p :: q :: r, n + 1, _, hz, hn => by
  have : glue [z] (p :: q :: r) = p ++ z :: glue [z] (q :: r) := by simp [glue]
  rw [this, zk7 (hz p (by simp)), zho (by simp) (fun x hx => hz x (List.mem_cons_of_mem _ hx)) (by simpa using hn)]
section
variable {K : PySem.W.Frag} {G H₀ L : Hp} {ss : List Sl} {ta tb tc t t1 t2 te : TE} {ds : List D} {E : Ends}
theorem zry {l : List Nat} {z : Nat} (a : EvB K G H₀ L ss ta (.str l)) (b : EvB K G H₀ L ss t (.str [z])) : Ev K G H₀ L ss (tBM K "str" zll ta (zbe t tNil)) (.bl (decide (l.head? = some z))) := fun F H σ Q S q =>
 a F H σ _ S fun v F1 H1 e1 r1 => by
  rw [r1.of_str]
  refine ⟨rfl, b F1 H1 σ _ (S.ext2 e1) fun v2 F2 H2 e2 r2 => ?_⟩
  exact ⟨l, z, rfl, by rw [r2.of_str], q _ _ _ (e1.trans e2) Rep.bl⟩
theorem zol {l : List Nat} {z : Nat} (a : EvB K G H₀ L ss ta (.str l)) (b : EvB K G H₀ L ss t (.str [z])) (hl : l.length + 2 <= sizeLine) : EvO K G H₀ L ss (tBM K "str" zt8 ta (zbe t tNil)) ((zct z l).map D.str) := fun F H σ Q S q =>
 a F H σ _ S fun v F1 H1 e1 r1 => by
  rw [r1.of_str]
  refine ⟨rfl, b F1 H1 σ _ (S.ext2 e1) fun v2 F2 H2 e2 r2 => ?_⟩
  have ha := r1.asc
  have hz := r2.asc
  rw [r2.of_str]
  refine ⟨T l, T [z], rfl, rfl, by rw [zbl]; rfl, by rw [zbl]; exact hl, fun p hp => ?_⟩
  rw [zse (hz z (by simp)) ha]
  have e := e1.trans e2
  exact q p _ F2 _ (e.newO hp) (e.hh.free hp) (e.fh.free hp) zal (zv1 fun m hm c hc => ha c (zgm hm hc))
theorem zqz {tl : TE} (a : Ev K G H₀ L ss tl (.lst ds)) : EvI K G H₀ L ss (iEn1 K (zbe tl tNil)) ds.length fun i => .tup [.int ((i + 1 : Nat) : Int), ds.getD i .non] := fun F H σ R S q =>
 a F H σ _ S fun v F1 H1 e1 r1 => by
  obtain ⟨p, vs, rfl, sq, rs⟩ := r1.of_lst
  refine ⟨p, rfl, ⟨vs, SqL.same e1.fh sq⟩, q F1 H1 _ e1 fun F2 H2 f1 h1 fh => ?_⟩
  have rp : Rep K F2 (.lst ds) (.ref p) := r1.mono f1
  obtain ⟨ws, sq2, rs2⟩ := rp.itl fh
  have hlen := rs2.length
  refine ⟨fun i hi => ⟨⟨ws, ws[i]'(by lia), sq2, List.getElem?_eq_getElem _⟩, fun x H3 y => ?_⟩, ⟨ws, sq2, by lia⟩⟩
  obtain ⟨T0, us, rfl, hf, rfl, y⟩ := y
  obtain ⟨w, hx, rfl⟩ := y ws sq2
  obtain ⟨dx, hdx, rx⟩ := rs2.get hx
  have e3 : Ext F2 H2 (upd F2 T0 (.tup [.int ((i + 1 : Nat) : Int), w])) (upd H2 T0 (.tup [.int ((i + 1 : Nat) : Int), w])) := (Ext.refl fh).newF hf
  refine ⟨_, e3, ?_⟩
  show Rep K _ (.tup [.int ((i + 1 : Nat) : Int), ds.getD i .non]) _
  rw [List.getD_eq_getElem?_getD, hdx]
  exact Rep.tup (SqT.of zal) (Reps.cons Rep.int (Reps.cons (rx.mono e3.gf) Reps.nil))
end
end L2
namespace L2
open PySem PySem.W PySem.Spec PyProof.Rows
structure ITell (K : PySem.W.Frag) (C : Addr) : Prop where
 ha : findIn K (.ref C) "__class__" = some (some (.builtin "object.__class__"))
 hn : specialIn K (.builtin "object.__class__") "__get__" = some (some (.builtin "getset_descriptor.__get__"))
 tk : takesIn K (.builtin "object.__class__") = some true
 hm : mroIn K C (.type "object") = some true
end L2
namespace L2
open PySem PySem.W PySem.Spec PyProof.Rows
end L2
namespace L2
open PySem PySem.Spec PyProof.Rows
section
variable {X : Cx}
noncomputable def zvx : R2 := fun x y H Q => ∃ z n, x = .str z /\ y = .int n /\ MulOk z n /\ Q (.str (Txt.mul z n)) H
theorem zut : OpR X (binaryOp .Mult) zvx := by
 intro pins s σ H x y v u Q I rx ry h
 obtain ⟨z, n, rfl, rfl, hz, q⟩ := h
 obtain ⟨t, rfl⟩ := rx
 obtain ⟨t', rfl⟩ := ry
 exact SB.mul hz fun t' tk => ⟨.str (Txt.mul z n), H, I.tok _, ⟨_, rfl⟩, q⟩
end
theorem zl4 (l : List Nat) : ∀ (k : Nat) (acc : List Nat), (List.replicate k l.toArray).foldl (· ++ ·) acc.toArray = (acc ++ (List.replicate k l).flatten).toArray
 | 0, acc => by simp
 | k + 1, acc => by
  rw [List.replicate_succ, List.foldl_cons, List.replicate_succ, List.flatten_cons, <- List.append_assoc]
  have : acc.toArray ++ l.toArray = (acc ++ l).toArray := by simp
  rw [this]; exact zl4 l k (acc ++ l)
theorem zyu (l : List Nat) (n : Nat) : Txt.mul (T l) (n : Int) = T (List.replicate n l).flatten := by
 unfold Txt.mul
 by_cases h : (n : Int) < 1
 ·have : n = 0 := by lia
  subst this; rw [if_pos h]; rfl
 ·rw [if_neg h]
  by_cases h2 : ((n : Int) == 1 || (T l).length == 0) = true
  ·rw [if_pos h2]
   rw [Bool.or_eq_true, beq_iff_eq, beq_iff_eq, zbl] at h2
   rcases h2 with h2 | h2
   ·have : n = 1 := by lia
    subst this; simp
   ·have : l = [] := List.length_eq_zero_iff.mp h2
    subst this
    have : (List.replicate n ([] : List Nat)).flatten = [] := by simp
    rw [this]
  ·rw [if_neg h2]
   have e := zl4 l n []
   rw [List.nil_append] at e
   show (⟨(List.replicate (n : Int).toNat l.toArray).foldl (· ++ ·) #[]⟩ : Str) = ⟨_⟩
   rw [Int.toNat_natCast]
   exact congrArg Str.mk e
theorem zxv {l : List Nat} {n : Nat} (hl : l.length <= 1000) (hn : n <= 1000) : MulOk (T l) (n : Int) := by
 have hm : l.length * n <= 1000 * 1000 := Nat.mul_le_mul hl hn
 refine ⟨?_, fun h1 _ => ?_, fun _ _ => ?_⟩
 ·rw [Bool.or_eq_false_iff]
  exact ⟨decide_eq_false (by lia), decide_eq_false (by lia)⟩
 ·rw [zbl]
  have : (l.length : Int) <= (2 ^ 63 - 1) / (n : Int) := by
   rw [Int.le_ediv_iff_mul_le (by omega)]
   have : ((l.length * n : Nat) : Int) <= 1000 * 1000 := by exact_mod_cast hm
   rw [Int.natCast_mul] at this
   lia
  lia
 ·rw [zbl, Int.toNat_natCast]
  unfold Builtin.Str.tooLong
  exact decide_eq_false (by rw [sizeLine_eq]; lia)
section
variable {K : PySem.W.Frag} {G H₀ L : Hp} {ss : List Sl} {ta tb : TE}
theorem zuu {l : List Nat} {n : Nat} (a : EvB K G H₀ L ss ta (.str l)) (b : EvB K G H₀ L ss tb (.int n)) (hl : l.length <= 1000) (hn : n <= 1000) : Ev K G H₀ L ss (tOp zvx ta tb) (.str (List.replicate n l).flatten) :=
 zcu (w:=.str (T (List.replicate n l).flatten)) a b (fun H x y Q r1 r2 q => ⟨T l, n, r1.of_str, r2.of_int, zxv hl hn, by rw [zyu]; exact q⟩) fun _ _ _ _ r1 _ => Rep.str fun c hc => by
  obtain ⟨l', hl', hc'⟩ := List.mem_flatten.mp hc
  rw [(List.mem_replicate.mp hl').2] at hc'
  exact r1.asc c hc'
end
end L2
namespace L2
open PySem PySem.W PySem.Spec PyProof.Rows
section
variable {P : Program} {w : World} {fs : List Addr} {H H' : Hp} {h h2 h3 B : Heap}
theorem Un.fly (U : Un fs [] H H' h h2) (st2 : B.StaysIn h2) (st3 : B.StaysIn h3) (c1 : ∀ b o, h.get? b = some o -> b ∉ fs -> ∃ o', B.get? b = some o') (up : h2.UpToSlots h3)
  (ff : ∀ b ∈ fs, ∃ o, h2.get? b = some o /\ ∀ vs, o.data ≠ .fields vs) : Un fs [] H H' h h3 where
 keep := fun b o e n hb hx => by
  obtain ⟨o', q⟩ := c1 b o e hb
  have q1 := U.keep b o e n hb hx
  have q2 := st2 b o' q
  rw [q1] at q2; cases q2
  exact st3 b _ q
 slot := fun b o e n hb hx => by
  obtain ⟨sl, q⟩ := U.slot b o e n hb hx
  obtain ⟨o2, q2, nf⟩ := ff b hb
  rw [q] at q2; cases q2
  obtain ⟨sl', q3⟩ := up b _ q nf
  exact ⟨sl', q3⟩
 free := U.free
 there := fun b o e hx => by
  by_cases hb : b ∈ fs
  ·obtain ⟨o2, q2, nf⟩ := ff b hb
   obtain ⟨sl, q3⟩ := up b _ q2 nf
   exact ⟨_, q3⟩
  ·obtain ⟨o', q⟩ := c1 b o e hb
   exact ⟨o', st3 b _ q⟩
 tups := U.tups
 frzs := U.frzs
 tbls := U.tbls
theorem HOk.fly (hok : HOk P w H h2) (c2 : ∀ b u, H b = some u -> ∃ o', B.get? b = some o') (st2 : B.StaysIn h2) (st3 : B.StaysIn h3) : HOk P w H h3 := fun b u e => by
 refine (hok b u e).stay (fun c v hc q => ?_) (fun _ q => q) fun _ _ q => q
 obtain ⟨o', q'⟩ : ∃ o', B.get? c = some o' := by
  rcases hc with rfl | hc
  ·exact c2 c _ e
  ·exact c2 c _ hc
 have := st2 c o' q'
 rw [q] at this; cases this
 exact st3 c _ q'
end
section
variable {P : Program} {w : World} {K : PySem.W.Frag} {mg : Str -> Option Value} {base : Heap} {N : List Str} {qual : Str} {scope : Scope} {f : Addr} {cd : Value} {A : Around} {outer : List Env} {s : Shared} {H : Hp} {E : XK}
noncomputable def vmro : List Value := [.type "ValueError", .type "Exception", .type "BaseException", .type "object"]
theorem zc2.there {h : Heap} {a : Addr} {o : HO} (x : zc2 P w H h a o) : ∃ ob, h.get? a = some ob := by
 cases o with
 | lst xs => obtain ⟨_, _, _, _, e⟩ := x; exact ⟨_, e⟩
 | tup xs => obtain ⟨_, _, _, ob, e, _⟩ := x; exact ⟨_, e⟩
 | dK kvs => obtain ⟨_, _, _, _, o, _, _, e, _⟩ := x; exact ⟨_, e⟩
 | dT kvs => obtain ⟨_, _, _, _, o, _, _, e, _⟩ := x; exact ⟨_, e⟩
 | set S n => obtain ⟨o, _, _, _, e, _⟩ := x; exact ⟨_, e⟩
 | ins C dx fs => obtain ⟨_, _, _, e, _⟩ := x; exact ⟨_, e⟩
 | own y => obtain ⟨_, e⟩ := x; exact ⟨_, e⟩
 | xd fs => obtain ⟨_, ⟨_, _, _, e, _⟩, _⟩ := x; exact ⟨_, e⟩
 | rng lo hi => obtain ⟨_, _, _, e⟩ := x; exact ⟨_, e⟩
 | frz ob u => obtain ⟨e, _⟩ := x; exact ⟨_, e⟩
 | tbl ps => exact ⟨_, x⟩
 | met f y => exact ⟨_, x⟩
 | ext φ => obtain ⟨_, e, _⟩ := x; exact e
end
end L2
namespace L2
open PySem PySem.W PySem.Spec PyProof.Rows
noncomputable abbrev Cx.inSuite (X : Cx) (x : Addr) : Cx := { X with A := X.A.mark (some (.ref x)), calm := false, xe := fun _ _ => False }
section
variable {X : Cx} {pins : List (Addr × Obj)} {σ : St} {H : Hp} {s : Shared} {x : Addr}
theorem Inv.inSuite (I : Inv X pins σ H s) (x : Addr) : Inv (X.inSuite x) pins σ H s :=
 ⟨⟨I.ok.mod, I.ok.kind, I.ok.glob, I.ok.blt, I.ok.above, I.ok.inj, I.ok.has, I.ok.cab, (fun z => by cases z), I.ok.frames, I.ok.stk, I.ok.exf, I.ok.bs, I.ok.bsz, I.ok.noex, I.ok.exfs, I.ok.funs, I.ok.frf⟩, I.os, I.bare, I.base, I.loc, I.cell, I.free, I.freeC, I.pin, I.hok, I.len⟩
theorem Inv.outSuite (ok : X.Ok) (I : Inv (X.inSuite x) pins σ H s) : Inv X pins σ H s := ⟨ok, I.os, I.bare, I.base, I.loc, I.cell, I.free, I.freeC, I.pin, I.hok, I.len⟩
theorem zpo {M : Model} {A : Around} {E : Value -> Shared -> Prop} {i : Nat} {n : Str} {v : V} {Q : Unit -> Shared -> Prop} (I : Inv X pins σ H s) (hN : X.N.Nodup) (hi : X.N[i]? = some n) (hx : X.env.scope.names.lookup n = some .local) (hv : σ[i]? = some (some v))
  (h : ∀ s', Inv X pins (σ.set i none) H s' -> Q () s') : wpAny M A (unbindName X.env n) Q E s := by
 obtain ⟨m, hn, hl⟩ := id I.loc
 have hcls : (X.env.scope.kind == .class || (X.env.scope.kind == .module && X.env.locals != X.env.globals)) = false := by rw [I.ok.kind]; rfl
 obtain ⟨u, r, lk⟩ := hl i n v hi hv (.inl hx)
 have hm : m n = some u := by
  rcases lk with ⟨_, e⟩ | ⟨k, _⟩
  ·exact e
  ·have k : X.env.scope.names.lookup n = some .cell \/ X.env.scope.names.lookup n = some .free := k
   rw [hx] at k
   rcases k with k | k <;> cases k
 refine wpAny_unbindName_local hx hn hm hcls fun h' u' hn' hs => ?_
 obtain ⟨oL, _, _, hoL, _⟩ := id hn
 have cne := I.cne
 have hiσ : i < σ.length := by rw [I.len]; exact (List.getElem?_eq_some_iff.mp hi).1
 refine h _ ⟨I.ok, I.os, I.bare, ⟨fun b o e n hb hx => ?_, fun b o e n hb hx => ?_, I.base.free, fun b o e hx => ?_, I.base.tups, I.base.frzs, I.base.tbls⟩, ⟨_, hn', fun j y v' e1 e2 e3 => ?_⟩, fun y c e => ?_, I.free, I.freeC, fun p hp => ?_, fun b ob e => ?_, by simpa using I.len⟩
 ·exact (hs.2 b (Nat.ne_of_lt (Nat.lt_of_lt_of_le (Heap.lt_size e) I.ok.above))).trans (I.base.keep b o e n hb hx)
 ·obtain ⟨sl, e1⟩ := I.base.slot b o e n hb hx
  exact ⟨sl, (hs.2 b (Nat.ne_of_lt (Nat.lt_of_lt_of_le (Heap.lt_size e) I.ok.above))).trans e1⟩
 ·obtain ⟨o', e1⟩ := I.base.there b o e hx
  exact ⟨o', (hs.2 b (Nat.ne_of_lt (Nat.lt_of_lt_of_le (Heap.lt_size e) I.ok.above))).trans e1⟩
 ·by_cases hj : j = i
  ·subst hj
   rw [List.getElem?_set_self hiσ] at e2
   cases e2
  ·rw [List.getElem?_set_ne (Ne.symm hj)] at e2
   obtain ⟨u', r', q⟩ := hl j y v' e1 e2 e3
   refine ⟨u', r', ?_⟩
   rcases q with ⟨k, e⟩ | ⟨k, c, e, z⟩
   ·refine .inl ⟨k, ?_⟩
    have : y ≠ n := fun e => hj (zh9 hN e1 (e ▸ hi))
    simp [this, e]
   ·exact .inr ⟨k, c, e, z.sameBut hs (cne y c e)⟩
 ·obtain ⟨w', z⟩ := I.cell y c e
  exact ⟨w', z.sameBut hs (cne y c e)⟩
 ·obtain ⟨e, n, ne, nf, d⟩ := I.pin p hp
  exact ⟨(hs.2 p.1 ne).trans e, n, ne, nf, d⟩
 ·refine (I.hok b ob e).stay (fun c w' hc q => (hs.2 c ?_).trans q) (fun _ q => q) fun _ _ q => q
  rintro rfl
  rcases hc with rfl | hc
  ·rw [I.free] at e; cases e
  ·rw [I.free] at hc; cases hc
end
end L2
namespace L2
open PySem PySem.W PySem.Spec PyProof.Rows PySem.Calls Builtin Builtin.ObjectAttr Builtin.Getset_descriptor
structure XTell (K : PySem.W.Frag) (C : Addr) : Prop where
 ga : findIn K (.ref C) "__getattribute__" = some (some (.builtin "BaseException.__getattribute__"))
 gt : findIn K (.ref C) "__getattr__" = some none
 mb : mroIn K C (.type "BaseException") = some true
 fc : findIn K (.ref C) "__class__" = some (some (.builtin "object.__class__"))
 sp : specialIn K (.builtin "object.__class__") "__get__" = some (some (.builtin "getset_descriptor.__get__"))
 tk : takesIn K (.builtin "object.__class__") = some true
 mo : mroIn K C (.type "object") = some true
 dc : hasDictIn K C = true
section
variable {K : PySem.W.Frag} {x C : Addr}
noncomputable def XAt (x C : Addr) (h : Heap) : Prop := ∃ o, h.get? x = some o /\ o.cls = .ref C
theorem XAt.ty {M : Model} {h : Heap} (p : XAt x C h) : Looks M h (typeOf (.ref x)) (.ref C) := by
 obtain ⟨o, ho, hc⟩ := p
 rw [<- hc]; exact (Looks.ld ho).andThen .now
theorem zvd {M : Model} {h : Heap} (X : K.In h) (T : XTell K C) : Looks M h (Builtin.ObjectAttr.find (.ref x) (.ref C) "__class__") (.bind (.builtin "getset_descriptor.__get__") (.builtin "object.__class__")) :=
 (looks_findIn X T.fc).andThen ((show Looks M h (Builtin.ObjectAttr.getOf (some (.builtin "object.__class__"))) (some (.builtin "getset_descriptor.__get__")) from looks_specialIn X T.sp).andThen
  ((show Looks M h (Builtin.ObjectAttr.dataDescriptor? (some (.builtin "object.__class__")) (some (.builtin "getset_descriptor.__get__"))) (some (_, _)) from (looks_takesIn (M:=M) X T.tk).andThen .now).andThen (Looks.tag .now)))
section
variable {prog : Program} {w : World} {A : Around} {s : Shared}
theorem zs7 {R : Result -> Shared -> Prop} {tp : Value} (X : K.In s.heap) (T : XTell K C) (p : XAt x C s.heap) (h : R (.ok (.ret (.ref C))) s) : codeAny (model prog w) A (.call (.builtin "getset_descriptor.__get__") ⟨[.builtin "object.__class__", .ref x, tp], []⟩) R s := by
 obtain ⟨hh, g, dr, t, os⟩ := s
 have L0 := p.ty (M:=model prog w); have L1 := looks_mroIn (M:=model prog w) X T.mo
 refine codeAny_call_builtin KF.slot_gs.plain KF.entry_gs (KF.slot_gs.check _ _ _ _ _ _ _ _ KF.type_class (KF.args_gs _ _ _) (show wpAny _ _ _ _ _ _ from ?_))
 unfold Builtin.«getset_descriptor.__get__» descrGet; rw [dga_obj]; refine wpAny_bind (wpAny_pure ?_); unfold descrGetter descrCheckInstance descrNameAndClass isInstance; simp only [KF.owner_class]
 repeat lk
 refine ⟨Code.quiet_builtin _ (by decide +kernel), codeAny_builtin KF.entry_class (show wpAny _ _ _ _ _ _ from ?_)⟩
 unfold Builtin.«object.__class__» shownTypeOf; repeat lk
 exact h
theorem zpq {E : Value -> Shared -> Prop} {Q : Option Value -> Shared -> Prop} (X : K.In s.heap) (T : XTell K C) (p : XAt x C s.heap) (q : Q (some (.ref C)) { s with toks := s.toks + 1 }) :
  wpAny (model prog w) A (getAttr? (.ref x) "__class__") Q E s := by
 obtain ⟨hh, g, d, t, os⟩ := s
 have L0 := p.ty (M:=model prog w); have L1 := looks_findIn (M:=model prog w) X T.ga; have L2 := looks_findIn (M:=model prog w) X T.gt
 have L3 := zvd (x:=x) (M:=model prog w) X T; have L4 := looks_mroIn (M:=model prog w) X T.mb
 have hbd := F.attr_ValueError.ga.bind (.ref x)
 have hk : builtinKind "BaseException.__getattribute__" = some .slot := by decide +kernel
 have hs : splitId "BaseException.__getattribute__" = some ("BaseException", "__getattribute__") := by decide +kernel
 unfold getAttr? getAttrBy? getAttrBy; refine wpAny_bind (wpAny_mkText (wpAny_bind (wpAny_attempt (wpAny_holding (wpAny_bind (L0.at (wpAny_bind (L1.at ?_))))))))
 show wpAny _ _ (if (_ && _) then _ else _) _ _ _
 rw [if_neg (by rw [Bool.and_eq_true]; intro z; exact absurd z.2 (by decide +kernel))]
 unfold getAttrByItsOwn
 refine wpAny_bind ((show Looks _ _ (hookBefore (.ref C)) none from L2).at (wpAny_bind (wpAny_attempt (wpAny_holding ?_))))
 unfold callGetattribute boundAndCalled
 rw [if_neg (by intro z; cases z), hbd]
 refine wpAny_bind (wpAny_pure (wpAny_call ?_))
 refine codeAny_call_builtin F.attr_ValueError.ga.plain F.entry_bexc_ga ?_
 have hao := F.args_bexc_ga (.ref x) (.str "__class__" t)
 simp only [checkBuiltinCall, hk, hs]; unfold isInstance
 repeat lk
 refine wpAny_run (zs7 (x:=x) X T p ?_)
 repeat lk
 exact q
end
theorem zr2 (T : XTell K C) : KitX K (.ref x) (.ref C) (XAt x C) where
 ty := fun _ _ _ p => p.ty
 it := fun _ _ X _ => by
  obtain ⟨cd, hc, _⟩ := any_some T.dc
  unfold clsIn at hc; split at hc
  ·rename_i ho
   intro A' Q' E' s' k q
   unfold isType loadHead; exact wpAny_bind (wpAny_loadPart (k _ _ (X _ _ ho)) (wpAny_pure q))
  ·cases hc
 ne := fun h tp dd its n sl X htp => by
  obtain ⟨cd, hc, _⟩ := any_some T.dc
  refine Bool.eq_false_iff.mpr fun q => ?_
  obtain rfl : C = tp := Value.ref.inj (beq_iff_eq.mp q)
  unfold clsIn at hc; split at hc
  ·rename_i ho
   have z := (X _ _ ho).symm.trans htp; cases z
  ·cases hc
 ca := fun X p k => zpq X T p k
end
end L2
namespace L2
open PySem PySem.W PyProof.Rows
noncomputable def EvR (K : PySem.W.Frag) (G H₀ L : Hp) (ss : List Sl) (t : TE) : Prop := ∀ F H σ Q, Sat K G H₀ L F H σ ss -> t σ H Q
section
variable {K : PySem.W.Frag} {G H₀ L : Hp} {ss : List Sl} {ta tb te : TE} {t : TA} {ds : List D} {D0 : Ends} {E : XK} {C : Addr} {pre bad : List D -> Prop} {res : List D -> List D}
theorem ztb {sp : Sp} {E' : XK} {tr : TA} (a : EvR K G H₀ L ss ta) : EvR K G H₀ L ss (zil sp [] E' (zbe ta tr)) := fun F H σ Q S => a F H σ _ S
theorem zvk (a : EvR K G H₀ L ss te) : Go K G H₀ L D0 ss (tRet te) := fun F H σ S => a F H σ _ S
end
end L2
namespace L2
open PySem PySem.W PyProof.Rows
theorem zq2 {X : Cx} {st : Stmt} {t : TS} (h : PS X.nox st t) : PS X st t := fun pins s σ H D I hw =>
 wpAny_mono (h pins s σ H D (I.wish _) hw) (fun _ _ q => q.unwish) fun _ _ z => False.elim z
end L2
namespace L2
open PySem PySem.W PySem.Spec PyProof.Rows
noncomputable abbrev QS := List (Addr × List D)
section
variable {K : PySem.W.Frag} {G H₀ L : Hp} {ss : List Sl} {i : Nat} {p : Addr} {kqs : KQ} {kvs : DD} {qs : QS} {E : Ends} {D0 : XK} {t : TA} {te ta td : TE} {d : D} {ds : List D} {dss : List (List D)} {pre : List D -> Prop} {res : List D -> List (List D)}
mutual
noncomputable def D.nm : D -> Bool
 | .lst _ => false
 | .dct ks vs => D.nms ks && D.nms vs
 | .dctT _ _ => false
 | .ins _ _ _ => false
 | .tup a => D.nms a
 | _ => true
noncomputable def D.nms : List D -> Bool
 | [] => true
 | a :: x => a.nm && D.nms x
end
noncomputable def cut (F : Hp) (as : List Addr) : Hp := fun b => if b ∈ as then none else F b
end
end L2
namespace L2
open PySem PySem.W PySem.Spec PyProof.Rows
noncomputable def zww : R2 := fun x y H Q => y = .non /\ Q (.bl (!decide (x = .non))) H
theorem zk8 {K : PySem.W.Frag} {H : Hp} {d : D} {x : V} (r : Rep K H d x) : (x = .non) ↔ d = .non := by
 cases d with
 | non => exact ⟨fun _ => rfl, fun _ => r.of_non⟩
 | bl b => rw [r.of_bl]; exact ⟨fun h => (by cases h), fun h => (by cases h)⟩
 | int b => rw [r.of_int]; exact ⟨fun h => (by cases h), fun h => (by cases h)⟩
 | str b => rw [r.of_str]; exact ⟨fun h => (by cases h), fun h => (by cases h)⟩
 | lst b => obtain ⟨p, xs, rfl, _⟩ := r.of_lst; exact ⟨fun h => (by cases h), fun h => (by cases h)⟩
 | tup b => obtain ⟨p, xs, rfl, _⟩ := r.of_tup; exact ⟨fun h => (by cases h), fun h => (by cases h)⟩
 | dct a b => obtain ⟨p, xs, rfl, _⟩ := r.of_dct; exact ⟨fun h => (by cases h), fun h => (by cases h)⟩
 | dctT a b => rw [Rep] at r; obtain ⟨p, xs, rfl, _⟩ := r; exact ⟨fun h => (by cases h), fun h => (by cases h)⟩
 | ins a b c => obtain ⟨p, dx, fs, rfl, _⟩ := r.of_ins; exact ⟨fun h => (by cases h), fun h => (by cases h)⟩
section
variable {K : PySem.W.Frag} {G H₀ L : Hp} {ss : List Sl} {i : Nat} {E : Ends} {te tk tv : TE} {k d : D} {c : TT} {tb : TS}
theorem zp4 (a : EvB K G H₀ L ss te d) : Ev K G H₀ L ss (tOp zww te (tC .non)) (.bl (!decide (d = .non))) := fun F H σ Q S q =>
 a F H σ _ S fun x F1 H1 e1 r1 => ⟨rfl, by
  rw [decide_eq_decide.mpr (zk8 r1)]
  exact q _ _ _ e1 Rep.bl⟩
end
end L2
namespace L2
open PySem PySem.Spec PyProof.Rows
end L2
namespace L2
open PySem PySem.W PySem.Spec PyProof.Rows
end L2
namespace L2
open PySem PySem.W PyProof.Rows
end L2
namespace L2
open PySem PySem.W PyProof.Rows
noncomputable def zlr (K : PySem.W.Frag) : List V -> Hp -> VK -> Prop := fun vs H Q => ∃ a xs ds, vs = [.ref a] /\ SqL K H a xs /\ Reps K H ds xs /\ zdw ds /\ ds.length < 64 /\
 ∀ l (p : List Nat), p.Perm (List.range ds.length) -> p.map (fun i => ds.getD i .non) = zdg ds -> H l = none -> Q (.ref l) (upd H l (.lst (p.map fun i => xs.getD i .non)))
section
variable {X : Cx} {pins : List (Addr × Obj)} {σ : St} {H : Hp} {s : Shared}
theorem zpb {h' : Heap} {ds : List D} {xs : List V} {us : List Value} {A' : Around} (I : Inv X pins σ H s) (rs : Reps X.K H ds xs) (rv : Vals xs us) (hal : zdw ds) (h2 : 2 <= us.length) (h64 : us.length < 64) (k : zev s.heap h') :
  zrm X.prog X.w A' { s with heap := h' } us (OutK (rk ds) us) := by
 obtain ⟨κ, hk, hlt⟩ := zqu (A':=A') I rs rv hal h2 k
 exact zl1 h2 h64 hk hlt
theorem zin : zca X (.builtin "sorted") (zlr X.K) := by
 intro pins s σ H xs us Q I r h
 obtain ⟨a, vs, ds, rfl, hq, rs, hal, h64, q⟩ := h
 obtain ⟨u, rfl, ru⟩ := zfo r
 cases ru
 obtain ⟨its, rv, pl, hz⟩ := I.list hq
 have l1 := rs.length
 have l2 := rv.length
 refine zli (OutK (rk ds) its) pl.isList (by lia) (fun h2 h' k => zpb I rs rv hal h2 (by lia) k) (fun h1 => ?_) fun out c h' k hc hsz hO => ?_
 ·exact zhy h1
 ·obtain ⟨p, hp, ho, hs⟩ := hO
  have hmem : ∀ i ∈ p, i < its.length := fun i hi => List.mem_range.mp (hp.mem_iff.mp hi)
  have hpm : (p.map fun i => ds.getD i .non).Perm ds := by
   have h1 := hp.map (fun i => ds.getD i D.non)
   have h2 : (List.range its.length).map (fun i => ds.getD i D.non) = ds := by
    rw [<- l2, <- l1]
    refine List.ext_getElem? fun i => ?_
    rw [List.getElem?_map]
    by_cases hi : i < ds.length
    ·rw [List.getElem?_range hi, List.getElem?_eq_getElem hi]
     simp [List.getD_eq_getElem?_getD, hi]
    ·rw [List.getElem?_eq_none (by simpa using hi), List.getElem?_eq_none (by simpa using hi)]; rfl
   rw [h2] at h1; exact h1
  have hso : (p.map fun i => ds.getD i .non).Pairwise fun a b => a.leB b = true := by
   rw [List.pairwise_map]
   refine List.Pairwise.imp_of_mem (fun {i j} hi hj h => zxk (by have := hmem i hi; lia) (by have := hmem j hj; lia) h) hs
  have eD := zig hal hpm hso
  have hv := rv.pick p (by rw [l2]; exact hmem)
  rw [<- ho] at hv
  have hplen : p.length = its.length := by rw [hp.length_eq, List.length_range]
  refine ⟨.ref (s.heap.objs.size + 1), _, I.laid (t':=s.toks) k (Nat.le_succ _) (show zc2 X.prog X.w _ _ _ (.lst _) from ⟨by rw [List.length_map]; lia, out.toList, c, hv, by simpa [seqObj] using hc⟩), rfl, q _ p (by rw [l1, l2]; exact hp) eD (I.hok.fresh (Nat.le_succ _))⟩
end
section
variable {K : PySem.W.Frag} {G H₀ L : Hp} {ss : List Sl} {t : TE} {ds : List D}
theorem zjd (a : EvL K G H₀ L ss t ds) (hal : zdw ds) (h64 : ds.length < 64) : EvO K G H₀ L ss (tCB (zlr K) (zbe t tNil)) (zdg ds) := fun F H σ Q S q =>
 a F H σ _ S fun p vs F' H' e sq r => ⟨p, vs, ds, rfl, sq, r.mono e.fh, hal, h64, fun l pm hp hs hl => by
  have hmem : ∀ i ∈ pm, i < ds.length := fun i hi => List.mem_range.mp (hp.mem_iff.mp hi)
  have := r.pick pm hmem
  rw [hs] at this
  exact q l _ F' _ (e.newO hl) (e.hh.free hl) (e.fh.free hl) zal this⟩
end
section
variable (P : Program) (w : World) (K : PySem.W.Frag)
noncomputable def zh3 (f : Bool) : List V -> Hp -> VK -> Prop := fun vs H Q => ∃ a xs ds, vs = [.ref a] /\ H a = some (zqa P w a (ds.map D.sk) xs) /\ Reps K H ds xs /\ (∀ d ∈ ds, d.hk f = true) /\ zdw ds /\ ds.length < 64 /\
 ∀ l xr, H l = none -> Src ds xs [] [] (zdg ds) xr -> Q (.ref l) (upd H l (.lst xr))
end
section
variable {X : Cx}
theorem zg1 {f : Bool} (hc : X.calm = true) : zca X (.builtin "sorted") (zh3 X.prog X.w X.K f) := by
 intro pins s σ H vs us Q I r h
 obtain ⟨a, xs, ds, rfl, ha, rs, hf, hal, h64, q⟩ := h
 obtain ⟨u, rfl, ru⟩ := zfo r
 cases ru
 obtain ⟨es, ⟨o, ep, t, ho, S⟩, v⟩ := I.setE ha hf rs
 refine zkx (fun vs out => ∃ ds' xs', Vals xs' vs /\ ds'.Perm ds /\ Src ds xs [] [] ds' xs' /\ OutK (rk ds') vs out) (I.ok.hd hc) ho S (fun vs h' d tk hp h2 k => ?_) (fun vs hp h1 => ?_) fun vs out c h' d tk l hp k hl hcell hsz hO => ?_
 ·obtain ⟨d2, x2, v2, p2, s2⟩ := zk1 hp rs.length v
  obtain ⟨κ, z1, z2⟩ := zpb (A':=X.A.in1.in1) ((I.kept (h':=h') (t':=tk) k).drw d) (s2.reps rs Reps.nil) v2 (hal.perm p2) h2 (by have := p2.length_eq; have := s2.1; have := v2.length; lia) (fun _ _ e => e)
  exact ⟨κ, z1, fun Q E hQ => z2 Q E fun st' e1 e2 e3 => hQ st' e1 e2 ⟨d2, x2, v2, p2, s2, e3⟩⟩
 ·obtain ⟨d2, x2, v2, p2, s2⟩ := zk1 hp rs.length v
  exact ⟨d2, x2, v2, p2, s2, zhy h1⟩
 ·obtain ⟨d2, x2, v2, p2, s2, p, hpp, hout, hsort⟩ := hO
  have l1 := s2.1
  have l2 := v2.length
  have rs2 : Reps X.K H d2 x2 := s2.reps rs Reps.nil
  have hmem : ∀ i ∈ p, i < vs.length := fun i hi => List.mem_range.mp (hpp.mem_iff.mp hi)
  have hpm : (p.map fun i => d2.getD i .non).Perm d2 := by
   have g1 := hpp.map (fun i => d2.getD i D.non)
   have g2 : (List.range vs.length).map (fun i => d2.getD i D.non) = d2 := by
    rw [<- l2, <- l1]
    refine List.ext_getElem? fun i => ?_
    rw [List.getElem?_map]
    by_cases hi : i < d2.length
    ·rw [List.getElem?_range hi, List.getElem?_eq_getElem hi]
     simp [List.getD_eq_getElem?_getD, hi]
    ·rw [List.getElem?_eq_none (by simpa using hi), List.getElem?_eq_none (by simpa using hi)]; rfl
   rw [g2] at g1; exact g1
  have hso : (p.map fun i => d2.getD i .non).Pairwise fun a b => a.leB b = true := by
   rw [List.pairwise_map]
   exact List.Pairwise.imp_of_mem (fun {i j} hi hj h => zxk (by have := hmem i hi; lia) (by have := hmem j hj; lia) h) hsort
  have eD : (p.map fun i => d2.getD i .non) = zdg ds := zig hal (hpm.trans p2) hso
  have hv := v2.pick p (by rw [l2]; exact hmem)
  rw [<- hout] at hv
  have hplen : p.length = vs.length := by rw [hpp.length_eq, List.length_range]
  have hz : x2.length <= 1000 := by
   have := p2.length_eq
   have := S.small
   simp at *; lia
  refine ⟨.ref l, _, (I.laid (t':=tk) (h':=h') k hl (show zc2 X.prog X.w _ _ _ (.lst (p.map fun i => x2.getD i .non)) from ⟨by rw [List.length_map, hplen, <- l2]; exact zbo (by lia), out.toList, c, hv, by simpa [seqObj] using hcell⟩)).drw d, rfl, q l _ (I.hok.fresh hl) ⟨?_, fun i d' x' h1 h2 => ?_⟩⟩
  ·rw [<- eD]; simp
  ·rw [<- eD, List.getElem?_map] at h1
   rw [List.getElem?_map] at h2
   cases hp : p[i]? with
   | none => rw [hp] at h1; cases h1
   | some j =>
    rw [hp] at h1 h2
    have hj := hmem j (List.mem_of_getElem? hp)
    have e1 : d2[j]? = some d' := by
     have : d2.getD j .non = d' := by simpa using h1
     rw [List.getD_eq_getElem?_getD, List.getElem?_eq_getElem (by lia)] at this
     rw [List.getElem?_eq_getElem (by lia)]; simpa using this
    have e2 : x2[j]? = some x' := by
     have : x2.getD j .non = x' := by simpa using h2
     rw [List.getD_eq_getElem?_getD, List.getElem?_eq_getElem (by lia)] at this
     rw [List.getElem?_eq_getElem (by lia)]; simpa using this
    obtain ⟨j', hj'⟩ := s2.2 j d' x' e1 e2
    exact ⟨j', hj'⟩
end
section
variable {P : Program} {w : World} {K : PySem.W.Frag} {G H₀ L : Hp} {ss : List Sl} {t ta tb : TE} {f : Bool} {ds da db dr : List D}
theorem zh8 (dd : List D) (a : EvS P w K G H₀ L ss t ds) (hf : ∀ d ∈ ds, d.hk f = true) (hal : zdw ds) (hn : dd.Nodup) (h64 : dd.length < 64) (hm : ∀ d, d ∈ dd ↔ d ∈ ds) : EvO K G H₀ L ss (tCB (zh3 P w K f) (zbe t tNil)) (zdg dd) := fun F H σ Q S q =>
 a F H σ _ S fun p xs F' H' d1 e hp fp hp1 r n1 m1 => ⟨p, xs, d1, rfl, hp1, r.mono e.fh, fun d h => hf d ((m1 d).mp h), hal.sub fun d h => (m1 d).mp h, by rw [<- ((List.perm_ext_iff_of_nodup hn n1).mpr fun d => by rw [hm, m1]).length_eq]; exact h64, fun l xr hl src => by
  have hp : dd.Perm d1 := (List.perm_ext_iff_of_nodup hn n1).mpr fun d => by rw [hm, m1]
  rw [<- zd8 (hal.sub fun d h => (m1 d).mp h) hp] at src
  exact q l xr F' _ (e.newO hl) (e.hh.free hl) (e.fh.free hl) zal (src.reps r Reps.nil)⟩
end
end L2
namespace L2
open PySem PySem.W PySem.Spec PyProof.Rows
noncomputable def zvj (xs : List V) (H : Hp) (Q : V -> Hp -> Prop) : Prop := ∃ i : Int, xs = [.int i] /\ i.natAbs.log2 < 1920 /\ Q (.str (Str.ofString (toString i))) H
section
variable {X : Cx}
theorem zrp : zca X (.type "str") zvj := by
 intro pins s σ H xs us Q I r h
 obtain ⟨i, rfl, hi, q⟩ := h
 obtain ⟨u, rfl, t, rfl⟩ := zfo r
 exact P.str_of_int hi ⟨.str _, H, I.tok _, ⟨_, rfl⟩, q⟩
end
noncomputable def numL (n : Nat) : List Nat := (Nat.toDigits 10 n).map Char.toNat
theorem zot (n : Nat) : Str.ofString (toString (n : Int)) = T (numL n) := by
 have h := KIN.signs_num n
 have e : ∀ x y : Str, x.cps.toList = y.cps.toList -> x = y := fun x y h => by
  cases x; cases y; congr 1; exact Array.toList_inj.mp h
 exact e _ _ (by rw [h, zdh]; rfl)
theorem zgl (n : Nat) : ∀ c ∈ numL n, 48 <= c /\ c <= 57 := fun c hc => by
 obtain ⟨ch, hch, e⟩ := List.mem_map.mp hc
 have r := digit_range (Nat.isDigit_of_mem_toDigits (by decide) (by decide) hch)
 rw [<- e]
 exact r
theorem ztn {n : Nat} (h : n < 10 ^ 10) : (numL n).length <= 10 := by
 have := KT.len_num (n:=(n : Int)) (by omega) (by have : ((10 : Int) ^ 10) = ((10 ^ 10 : Nat) : Int) := rfl; rw [this]; exact Int.ofNat_lt.mpr h)
 rw [zot, zbl] at this
 exact this
section
variable {K : PySem.W.Frag} {G H₀ L : Hp} {ss : List Sl} {te : TE}
theorem zvv {i : Int} (a : EvB K G H₀ L ss te (.int i)) (h0 : 0 <= i) (h1 : i < 10 ^ 10) : Ev K G H₀ L ss (tCB zvj (zbe te tNil)) (.str (numL i.toNat)) := fun F H σ Q S q =>
 a F H σ _ S fun v F1 H1 e1 r1 => ⟨i, by rw [r1.of_int], by
  have hb : i.natAbs < 2 ^ 1920 := by
   have h2 : i.natAbs < 10 ^ 10 := by omega
   exact Nat.lt_of_lt_of_le h2 (Nat.le_trans (show 10 ^ 10 <= 2 ^ 64 by decide) (Nat.pow_le_pow_right (by decide) (by decide)))
  by_cases z : i.natAbs = 0
  ·rw [z]; decide
  ·exact (Nat.log2_lt z).mpr hb, by
  obtain ⟨n, rfl⟩ := Int.eq_ofNat_of_zero_le h0
  rw [zot]
  exact q _ _ _ e1 (Rep.str fun c hc => by have := (zgl n c hc).2; omega)⟩
end
end L2
namespace PySem
open Sem (wp)
section
variable {prog : Program} {w : World} {A : Around} {E : Value -> Shared -> Prop} {h : Heap} {g : Array GenState} {d : Drawn} {t : Nat} {os : OsState}
variable {nm q : Str} {C N : Addr} {bs bm bmB : List Value} {hdct : Bool} {sn : List Str} {sub : List Value} {ab : Bool} {col : Option Bool} {dd : Option Addr} {k0 k1 k2 k3 k5 : Option Value} {B Bn newId nid initId inN : String} {bmN : List Value}
theorem zgb (Fn : ExcBaseFacts Bn newId inN bmN) (hBn : bmB.contains (.type Bn) = true) (F : ExcBaseFacts B nid initId bmB) (T : OwnTail h bmB bm) {mN : Str -> Option Value} {rest : List Value} {fI : Addr} {oI : Obj} {Q : Fin -> Shared -> Prop}
  (hC : h.get? C = some (excClassObj nm q C N bs bm hdct sn sub ab col dd k0 k1 k2 k3 k5 newId)) (hn : h.Ns N mN) (hi : mN "__init__" = some (.ref fI)) (hfI : h.get? fI = some oI) (hfc : oI.cls = .type "function")
  (hq : ∀ h' e, h.objs.size <= e -> Heap.MadeExcOf h h' e (.ref C) rest -> wpAny (model prog w) A (call (.ref fI) (.ref e :: rest)) (fun r s' => r = .none /\ Q (.done (.ret (.ref e))) s') E ⟨h', g, d, t, os⟩) (hrest : rest.length <= sizeLine) :
  wpAny (model prog w) A (Builtin.«type.__call__» ⟨.ref C :: rest, []⟩) Q E ⟨h, g, d, t, os⟩ := by
 repeat (first | with_reducible refine wpAny_loadPart_at hC ?_ | with_reducible refine wpAny_madeBy_exc hC ?_ | wp_step)
 refine codeAny_call_builtin_code (Code.quiet_builtin _ Fn.quiet) (wpAny_check_new_subU Fn hBn T hC ?_)
 refine codeAny_exc_new_subU Fn hBn F T hC ?_ hrest
 show wpAny _ _ _ _ _ _
 have k2 : ∀ b o, h.get? b = some o -> ((h.push { cls := .type "tuple", data := .seq rest.toArray }).push { cls := .ref C, data := .fields #[.ref h.objs.size, .none, .none, .none, .bool false, .none] }).get? b = some o := fun b o e => Heap.get?_push_of_some _ (Heap.get?_push_of_some _ e)
 have hC1 := k2 _ _ hC
 have hf1 := k2 _ _ hfI
 have hn1 : ((h.push { cls := .type "tuple", data := .seq rest.toArray }).push { cls := .ref C, data := .fields #[.ref h.objs.size, .none, .none, .none, .bool false, .none] }).Ns N mN := let ⟨o, es, ep, e, r⟩ := hn; ⟨o, es, ep, k2 _ _ e, r⟩
 have hget : ((h.push { cls := .type "tuple", data := .seq rest.toArray }).push { cls := .ref C, data := .fields #[.ref h.objs.size, .none, .none, .none, .bool false, .none] }).get? (h.objs.size + 1) = some { cls := .ref C, data := .fields #[.ref h.objs.size, .none, .none, .none, .bool false, .none] } := by heap_get
 have hcC : (Value.ref C :: bm).contains (.ref C) = true := by simp
 have T1 := T.keeps k2
 unfold isInstance
 repeat (first | with_reducible refine wpAny_loadPart_at hget ?_ | (with_reducible refine wpAny_isSubtype_exc hC1 ?_; rw [hcC]) | wp_step)
 show wpAny _ _ (typeLookup (.ref C) _) _ _ _
 refine wpAny_typeLookup_tail hC1 hn1 T1 F.mroIs F.init.lookup ?_
 rw [hi]
 refine wpAny_holding (wpAny_bind ?_)
 unfold bindSpecial
 refine wpAny_bind (wpAny_typeOf (T:="function") ⟨_, hf1, hfc⟩ ?_)
 rw [if_pos (by decide)]
 refine wpAny_pure (wpAny_bind (wpAny_mono (hq _ (h.objs.size + 1) (Nat.le_succ _) ⟨k2, Heap.get?_none_of_le (Nat.le_succ _), h.objs.size, hget, Heap.get?_none_of_le (Nat.le_refl _), ?_⟩) (fun r s' hr => ?_) fun _ _ x => x))
 ·exact Heap.get?_push_of_some _ (Heap.get?_push_at rfl rfl)
 ·obtain ⟨rfl, hQ⟩ := hr
  wp_walk
  exact hQ
theorem zhf (Fn : ExcBaseFacts Bn newId inN bmN) (hBn : bmB.contains (.type Bn) = true) (F : ExcBaseFacts B nid initId bmB) (T : OwnTail h bmB bm) {mN : Str -> Option Value} {rest : List Value} {fI : Addr} {oI : Obj} {Q : Value -> Shared -> Prop}
  (hC : h.get? C = some (excClassObj nm q C N bs bm hdct sn sub ab col dd k0 k1 k2 k3 k5 newId)) (hn : h.Ns N mN) (hi : mN "__init__" = some (.ref fI)) (hfI : h.get? fI = some oI) (hfc : oI.cls = .type "function")
  (hq : ∀ h' e, h.objs.size <= e -> Heap.MadeExcOf h h' e (.ref C) rest -> wpAny (model prog w) (A.under (.builtin "type.__call__" ⟨.ref C :: rest, []⟩)) (call (.ref fI) (.ref e :: rest)) (fun r s' => r = .none /\ Q (.ref e) s') E ⟨h', g, d, t, os⟩) (hrest : rest.length <= sizeLine) :
  wpAny (model prog w) A (call (.ref C) rest) Q E ⟨h, g, d, t, os⟩ := by
 have f1 := tc_lookup
 have f2 := tc_bind (.ref C)
 have hT : (⟨h, g, d, t, os⟩ : Shared).TypeIs (.ref C) "type" := ⟨_, hC, rfl⟩
 refine wpAny_call (codeAny_of_tree ?_)
 show wpAny _ _ (callAny (.ref C) _) _ _ _
 repeat (any_goals (first | assumption | with_reducible refine wpAny_loadPart_at hC ?_ | wp_step))
 refine ⟨rfl, ?_⟩
 exact codeAny_call_builtin_at (Code.quiet_builtin _ (by decide +kernel)) entry_typeCall (wpAny_check_type_call_sub hC (zgb (hrest:=hrest) Fn hBn F T hC hn hi hfI hfc fun h' e hs hm => hq h' e hs hm))
end
end PySem
namespace L2
open PySem PySem.W PySem.Spec PyProof.Rows
noncomputable def excInI (K : PySem.W.Frag) (C : Addr) (bmB : List Value) (newId : String) (fI : Addr) : Bool := match K.lookup C with
 | some ⟨.type "type", _, .cls cd, sl⟩ => (match cd.mro, sl.toList with
  | .ref C' :: bm, [_, _, _, _, some (.builtin n), _] => C' == C && n == newId && !cd.hasDel && tailIn K bmB bm && nsOkIn K cd.ns && nsIn K cd.ns "__init__" == some (some (.ref fI))
  | _, _ => false)
 | _ => false
noncomputable def zi2 (K : PySem.W.Frag) (C fI : Addr) : Prop := excInI K C vmro "ValueError.__new__" fI = true
theorem zyk {K : PySem.W.Frag} {h : Heap} {N : Addr} {m : Str -> Option Value} {n : Str} {v : Value} (X : K.In h) (G : h.Ns N m) (e : nsIn K N n = some (some v)) : m n = some v := by
 obtain ⟨o, es, ep, ho, hd, _, hf⟩ := G
 unfold nsIn at e
 split at e
 ·rename_i c d es' n' sl q
  have := X _ _ q
  rw [ho] at this
  cases this
  cases hd
  split at e
  ·rename_i en he
   cases e
   rw [<- hf]
   unfold nsFind findBy
   rw [<- Array.find?_toList, he]
   rfl
  ·split at e <;> cases e
 ·cases e
theorem zeg {K : PySem.W.Frag} {h : Heap} {C fI : Addr} (X : K.In h) (q : zi2 K C fI) : ∃ tl N nm q bs hdct sn sub ab col dd k0 k1 k2 k3 k5 mN, h.get? C = some (excClassObj nm q C N bs tl hdct sn sub ab col dd k0 k1 k2 k3 k5 "ValueError.__new__") /\ h.Ns N mN /\ mN "__init__" = some (.ref fI) /\ OwnTail h vmro tl := by
 unfold zi2 excInI at q
 split at q
 ·rename_i dd cd sl ho
  split at q
  ·rename_i C' bm k0 k1 k2 k3 n k5 hm hs
   simp only [Bool.and_eq_true, beq_iff_eq, Bool.not_eq_true'] at q
   obtain ⟨⟨⟨⟨⟨rfl, rfl⟩, hdel⟩, ht⟩, hok⟩, hni⟩ := q
   obtain ⟨nm, bs, mro, ns, qn, hd, sn, sub, ab, col, del⟩ := cd
   dsimp only at hm hdel hok hni
   subst hm hdel
   have hsl : sl = #[k0, k1, k2, k3, some (.builtin "ValueError.__new__"), k5] := by
    obtain ⟨l⟩ := sl
    simp only at hs
    rw [hs]
   subst hsl
   exact ⟨bm, ns, nm, qn, bs, hd, sn, sub, ab, col, dd, k0, k1, k2, k3, k5, _, X _ _ ho, .of_isNs (isNs_of_in X hok), zyk X (.of_isNs (isNs_of_in X hok)) hni, tail_of_in X ht⟩
  ·cases q
 ·cases q
noncomputable def zoe (e C : Addr) (dd : Option Addr) (h : Heap) : Prop := ∃ t : Value, h.get? e = some { cls := .ref C, dict := dd, data := .fields #[t, .none, .none, .none, .bool false, .none] }
noncomputable def ErrO (e C : Addr) (dd : Option Addr) : HO := .ext (zoe e C dd)
theorem zlp {P : Program} {w : World} {H : Hp} {h : Heap} {e C : Addr} {dd : Option Addr} (x : zoe e C dd h) : zc2 P w H h e (ErrO e C dd) :=
 ⟨x, let ⟨_, q⟩ := x; ⟨_, q⟩, fun h1 h2 ⟨t, q⟩ k => ⟨t, k _ q⟩⟩
theorem Inv.errMade {X : Cx} {pins : List (Addr × Obj)} {σ : St} {H : Hp} {s : Shared} {h' : Heap} {e C : Addr} {rest : List Value} (I : Inv X pins σ H s) (hs : s.heap.objs.size <= e) (m : Heap.MadeExcOf s.heap h' e (.ref C) rest) :
  Inv X pins σ (upd H e (ErrO e C none)) { s with heap := h', toks := s.toks } := by
 obtain ⟨t, q, _, _⟩ := m.there
 exact I.laid (t':=s.toks) (fun b u z => m.keeps b u z) hs (zlp ⟨.ref t, q⟩)
end L2
namespace L2
open PySem PySem.W PySem.Spec PyProof.Rows
structure CMeth (K : PySem.W.Frag) (C : Addr) (m : Str) (f : Addr) : Prop where
 ga : specialIn K (.ref C) "__getattribute__" = some (some (.builtin "type.__getattribute__"))
 rd : readsIn K C (.type "type") = true
 fc : findCls K (.ref C) (.type "type") m = some (.val (.ref f))
 kp : keepIn K (.ref f) = true
end L2
namespace L2
open PySem PySem.W PySem.Spec PyProof.Rows
end L2
namespace L2
open PySem PySem.W PySem.Spec PyProof.Rows
noncomputable def tFsI (a b : Str) (te : TE) : TE := fun σ H Q => (Str.empty ++ a).length <= sizeLine /\ te σ H fun x H1 => ∃ i : Int, x = .int i /\ i.natAbs.log2 < 1920 /\ (Str.empty ++ a ++ (toString i : Str)).length <= sizeLine /\ (Str.empty ++ a ++ (toString i : Str) ++ b).length <= sizeLine /\ Q (.str (Str.empty ++ a ++ (toString i : Str) ++ b)) H1
section
variable {X : Cx} {a b : Str} {e : Expr} {te : TE} {k1 k2 : Nat} {p1 p2 p3 pos : Pos}
theorem zmh {x : Str} {u : Value} (r : RelV (.str x) u) : ∃ t, u = .str x t := r
theorem zsz {i : Int} {u : Value} (r : RelV (.int i) u) : ∃ t, u = .int i t := r
theorem zm2 (he : PE X e te) : PE X (.JoinedStr [.Constant (.str a) k1 p1, .FormattedValue e (-1) none p2, .Constant (.str b) k2 p3] pos) (tFsI a b te) := by
 intro pins s σ H Q I h
 refine JoinedStr_many (joinParts_cons ?_)
 refine wpAny_mono (zap (x:=a) pins s σ H (fun v H1 => v = .str a /\ H1 = H) I ⟨rfl, rfl⟩) (fun u s1 ⟨v, H1, I1, rv, ev, eh⟩ => ?_) fun _ _ z => z
 subst ev eh
 obtain ⟨t1, rfl⟩ := zmh rv
 refine ⟨h.1, joinParts_cons (FormattedValue_plain ?_)⟩
 refine wpAny_mono (he pins s1 σ H1 _ I1 h.2) (fun u s2 ⟨x, H2, I2, r2, i, ex, hd, z1, z2, q⟩ => ?_) fun _ _ z => z
 subst ex
 obtain ⟨t2, rfl⟩ := zsz r2
 refine formatField_int_small hd ⟨z1, joinParts_consE (joinParts_cons ?_)⟩
 refine wpAny_mono (zap (x:=b) pins _ σ H2 (fun v H1 => v = .str b /\ H1 = H2) (I2.tok _) ⟨rfl, rfl⟩) (fun u s3 ⟨v, H3, I3, rv, ev, eh⟩ => ?_) fun _ _ z => z
 subst ev eh
 obtain ⟨t3, rfl⟩ := zmh rv
 exact ⟨z2, joinParts_nilE (joinParts_nil ⟨.str (Str.empty ++ a ++ (toString i : Str) ++ b), H3, I3.tok _, ⟨_, rfl⟩, q⟩ z2)⟩
end
end L2
namespace L2
open PySem PySem.W PySem.Spec PyProof.Rows
structure CInitB (K : PySem.W.Frag) (C : Addr) : Prop where
 ga : specialIn K (.ref C) "__getattribute__" = some (some (.builtin "type.__getattribute__"))
 rd : readsIn K C (.type "type") = true
 fc : findCls K (.ref C) (.type "type") "__init__" = some (.val (.builtin "ValueError.__init__"))
noncomputable def zmt (K : PySem.W.Frag) (t : TA) : TE := fun σ H Q => t σ H fun vs H1 => ∃ e C dd v, vs = [.ref e, v] /\ H1 e = some (ErrO e C dd) /\ (∃ fI, zi2 K C fI) /\ Q .non H1
section
variable {X : Cx} {B : Addr} {x : Str} {e1 e2 : Expr} {t : TA} {p apos pos : Pos}
theorem zhn {pl : Sem Bool} (hg : Gl X x) (hm : X.mg x = some (.ref B)) (M : CInitB X.K B) (ha : PA X [e1, e2] t)
  (hdb : (x == ("__debug__" : Str)) = false := by decide) (hst : starEach [e1, e2] X.env = (false, eval e1 X.env) :: starEach [e2] X.env := by rfl) (hpl : (backTo pos (starEach [e2] X.env)).any (·.1) = false := by rfl)
  (ht : eval (.Call (.Attribute (.Name x p) "__init__" apos) [e1, e2] [] pos) X.env = (do
   let ov <- eval (.Name x p) X.env
   standAt apos.atName
   let (f, first) <- holding [ov] (getMethod ov "__init__" pl)
   callWith pos f first (backTo pos (starEach [e1, e2] X.env)) (backToKw pos (keywordEach [] X.env))) := by rfl) :
  PE X (.Call (.Attribute (.Name x p) "__init__" apos) [e1, e2] [] pos) (zmt X.K t) := by
 intro pins s σ H Q I h
 refine PySem.W.methodCall_KW (pl:=pl) (thn (zcl (v:=.ref B) hg hm rfl hdb pins s σ H (fun v H1 => v = .ref B /\ H1 = H) I ⟨rfl, rfl⟩) fun u s1 hz9 => ?_) ht
 obtain ⟨v, H1, I1, rx, ev, eh⟩ := hz9
 subst ev eh
 obtain rfl : u = Value.ref B := rx
 refine method_cls I1.kIn M.ga (cls_value I1.kIn M.rd M.fc rfl ?_)
 have hA := ha pos pins _ σ _ _ (I1.tok (s1.toks + 1)) h
 rw [hst] at hA ⊢
 refine Calls.callWith_builtin (by show (false || (backTo pos (starEach [e2] X.env)).any (·.1)) = false; rw [hpl] <;> rfl) (Calls.evalArgs_plain ?_)
 refine thn hA fun us s2 ⟨vs, H2, I2, r, e, C, dd, v, ev, he, ⟨fI, hx⟩, q⟩ => ?_
 subst ev
 obtain ⟨u1, u2, rfl, r1, r2⟩ := zke r
 cases r1
 obtain ⟨tl, Na, nm, q', bs, hdct, sn, sub, ab, col, ddc, k0, k1, k2, k3, k5, mN, hC, hN, hni, T⟩ := zeg I2.kIn hx
 obtain ⟨t0, ho⟩ : zoe e C dd s2.heap := (I2.hok e _ he).1
 obtain ⟨hh, g, d, tk, os⟩ := s2
 refine wpAny_call (codeAny_call_builtin PySem.F.excBase_ValueError.init.plain PySem.F.excBase_ValueError.initEntry (wpAny_check_init_subU PySem.F.excBase_ValueError T hC ho rfl ?_))
 wp_walk
 have hk : ∀ b u, b ≠ e -> hh.get? b = some u -> ((hh.push { cls := .type "tuple", data := .seq #[u2] }).update e (Obj.mapFields (·.setIfInBounds 0 (Value.ref hh.objs.size)))).get? b = some u := fun b u hb z => by
  rw [Heap.get?_update_other _ _ (Ne.symm hb)]
  exact Heap.get?_push_of_some _ z
 have hget : ((hh.push { cls := .type "tuple", data := .seq #[u2] }).update e (Obj.mapFields (·.setIfInBounds 0 (Value.ref hh.objs.size)))).get? e = some { cls := .ref C, dict := dd, data := .fields #[.ref hh.objs.size, .none, .none, .none, .bool false, .none] } := by
  rw [Heap.get?_update_self _ (Heap.get?_push_of_some _ ho) rfl]
  rfl
 have J := Inv.write (o:=ErrO e C dd) (t':=tk) I2 (by rw [he]; trivial) (.inl rfl) hk ⟨_, hget⟩ (zlp ⟨_, hget⟩)
 have eH : upd H2 e (ErrO e C dd) = H2 := by
  funext b
  by_cases hb : b = e
  ·subst hb; rw [zal, he]
  ·rw [zaj hb]
 rw [eH] at J
 cases t0 <;> first | exact wpAny_letGo (wpAny_pure ⟨.non, H2, J, rfl, q⟩) | exact wpAny_pure (wpAny_pure ⟨.non, H2, J, rfl, q⟩)
end
end L2
namespace L2
open PySem PySem.W PySem.Spec PyProof.Rows PySem.Calls Builtin Builtin.ObjectAttr
noncomputable def vtail : List Value -> Bool
 | .ref _ :: r => vtail r
 | l => l == vmro
structure XStore (K : PySem.W.Frag) (C : Addr) (name : Str) : Prop where
 sa : findIn K (.ref C) "__setattr__" = some (some (.builtin "object.__setattr__"))
 nm : findIn K (.ref C) name = some none
 ob : mroIn K C (.type "object") = some true
 hd : hasDictIn K C = true
 tl : ((clsIn K C).any fun cd => vtail cd.mro) = true
theorem zmp (self : Value) : ∀ {l : List Value}, vtail l = true -> refuseLoop self "__setattr__" l = pure ()
 | .ref c :: r, e => by rw [refuseLoop_ref]; exact zmp self e
 | [], e => by cases e
 | .type n :: r, e => by rw [beq_iff_eq.mp (show ((Value.type n :: r) == vmro) = true from e)]; exact PySem.F.store_ValueError.passes self
 | .none :: r, e => by have := beq_iff_eq.mp (show ((Value.none :: r) == vmro) = true from e); cases this
 | .bool _ :: r, e => by have := beq_iff_eq.mp (show ((Value.bool _ :: r) == vmro) = true from e); cases this
 | .int _ _ :: r, e => by have := beq_iff_eq.mp (show ((Value.int _ _ :: r) == vmro) = true from e); cases this
 | .float _ _ :: r, e => by have := beq_iff_eq.mp (show ((Value.float _ _ :: r) == vmro) = true from e); cases this
 | .str _ _ :: r, e => by have := beq_iff_eq.mp (show ((Value.str _ _ :: r) == vmro) = true from e); cases this
 | .bytes _ _ :: r, e => by have := beq_iff_eq.mp (show ((Value.bytes _ _ :: r) == vmro) = true from e); cases this
 | .builtin _ :: r, e => by have := beq_iff_eq.mp (show ((Value.builtin _ :: r) == vmro) = true from e); cases this
section
variable {prog : Program} {w : World} {A : Around} {E : Value -> Shared -> Prop} {K : PySem.W.Frag} {h : Heap} {g : Array GenState} {d : Drawn} {t : Nat} {os : OsState} {e C : Addr} {oe : Obj} {name : Str} {v : Value}
theorem zvl {Q : Unit -> Shared -> Prop} (X : K.In h) (S : XStore K C name) (ho : h.get? e = some oe) (hc : oe.cls = .ref C) (hdn : oe.dict = none) (hnc : notCls oe = true) {vs : Array Value} (hdat : oe.data = .fields vs)
  (hq : ∀ h' tk, h'.get? e = some { oe with dict := some h.objs.size } -> h'.Ns1 h.objs.size (fun y => if y = name then some v else none) -> (∀ b o, b ≠ e -> h.get? b = some o -> h'.get? b = some o) -> Q () ⟨h', g, d, tk, os⟩) :
  wpAny (model prog w) A (setAttr (.ref e) name v) Q E ⟨h, g, d, t, os⟩ := by
 have SF := PySem.F.store_ValueError
 have I : InstAt h e oe C none := ⟨ho, hc, hnc, by rw [hdn]; trivial⟩
 obtain ⟨cd, hcl, htl⟩ := any_some S.tl
 obtain ⟨cd2, hcl2, hdd⟩ := any_some S.hd
 have e2 : cd = cd2 := Option.some.inj (hcl.symm.trans hcl2)
 subst e2
 refine set_plain (s:=⟨h, g, d, t, os⟩) X I S.sa ?_
 have sub : Looks (model prog w) h (isInstance (.ref e) (.type "object")) true := I.type.andThen (looks_mroIn X S.ob)
 refine codeAny_call_builtin SF.slot.plain SF.entry (@check_slot (model prog w) _ _ ⟨h, g, d, t + 1, os⟩ "object.__setattr__" "object" "__setattr__" (.ref e) [.str name t, v] [] _ SF.kind SF.split sub (SF.args (.ref e) (.str name t) v) ?_)
 have hm : Looks (model prog w) h (mroOf (.ref C)) cd.mro := (looks_clsIn X hcl).andThen .now
 rw [osa_eq, refuse_eq]
 refine wpAny_bind (wpAny_bind (Looks.here (s:=⟨h, g, d, t + 1, os⟩) I.type (wpAny_bind (Looks.here (s:=⟨h, g, d, t + 1, os⟩) hm ?_))))
 rw [zmp _ htl]
 refine wpAny_pure (wpAny_bind (Looks.here (s:=⟨h, g, d, t + 1, os⟩) I.type (wpAny_bind (Looks.here (s:=⟨h, g, d, t + 1, os⟩) (looks_findIn X S.nm) (wpAny_bind (wpAny_pure ?_))))))
 show wpAny _ _ (storeInOwnDict (.ref e) (.ref C) (.str name t) name v false) _ _ _
 refine wpAny_bind (wpAny_pure (wpAny_bind ?_))
 obtain ⟨oc, odi, oda, osl⟩ := oe
 dsimp only at hc hdn hdat hq
 subst hc hdn hdat
 refine wpAny_bind (wpAny_loadPart ho (wpAny_bind (Looks.here (s:=⟨h, g, d, t + 1, os⟩) (looks_clsIn X hcl) ?_)))
 rw [hdd]
 rw [if_neg (by decide)]
 have ho1 : (h.push { cls := .type "dict", data := .dict #[] }).get? e = some (⟨.ref C, none, .fields vs, osl⟩ : Obj) := Heap.get?_push_of_some _ ho
 have hes : e ≠ h.objs.size := Nat.ne_of_lt (Heap.lt_size ho)
 show wpAny _ _ (alloc { cls := .type "dict", data := .dict #[] } >>= fun dx => (update e fun o => { cls := o.cls, dict := some dx, data := o.data, slots := o.slots }) >>= fun _ => dictMade (.ref C) e dx) _ _ _
 refine wpAny_bind (wpAny_alloc' ?_)
 refine wpAny_bind (wpAny_update' ho1 ?_)
 refine wpAny_pure ?_
 have hgd : ((h.push { cls := .type "dict", data := .dict #[] }).update e fun o => { cls := o.cls, dict := some h.objs.size, data := o.data, slots := o.slots }).get? h.objs.size = some { cls := .type "dict", data := .dict #[] } := (Heap.get?_update_ne _ _ _ _ hes.symm).trans (Heap.get?_push_at rfl rfl)
 have hnd : ((h.push { cls := .type "dict", data := .dict #[] }).update e fun o => { cls := o.cls, dict := some h.objs.size, data := o.data, slots := o.slots }).Ns h.objs.size (fun _ => none) := ⟨_, #[], _, hgd, rfl, fun _ z => absurd z (by simp), fun _ => rfl⟩
 show wpAny _ _ (storeInDict h.objs.size (.str name t) name v) _ _ _
 unfold storeInDict newKeyGuard
 refine wpAny_bind (wpAny_pure (wpAny_bind (wpAny_nsSet1 (Heap.Ns1.of_empty hnd) fun h' hn' hs => ?_)))
 obtain ⟨oD, esD, epD, hoD, hdD, hcD⟩ := hn'.count (Within.cons name v Within.nil)
 refine wpAny_bind (wpAny_lookBehind hoD (by rw [hdD]; exact pastItsLine_dict (Nat.le_trans hcD (by rw [List.length_cons, List.length_nil, sizeLine_eq]; lia))) ?_)
 wp_walk
 refine hq h' _ ((hs.2 e hes).trans (Heap.get?_update_self _ ho1 rfl)) hn' fun b o hb z => ?_
 exact (hs.2 b (Nat.ne_of_lt (Heap.lt_size z))).trans ((Heap.get?_update_ne _ _ _ _ hb).trans (Heap.get?_push_of_some _ z))
end
noncomputable def zrt (K : PySem.W.Frag) (ta tv : TE) (f : Str) : TS := fun D σ H => tv σ H fun y H1 => ta σ H1 fun x H2 => ∃ e C, x = .ref e /\ H2 e = some (ErrO e C none) /\ XStore K C f /\ ∀ dx, H2 dx = none -> dx ≠ e -> D.nx σ (upd (upd H2 e (ErrO e C (some dx))) dx (.xd [(f, y)]))
section
variable {X : Cx} {o value : Expr} {ta tv : TE} {f : Str} {pos' pos : Pos}
theorem zkh (ha : PE X o ta) (hv : PE X value tv) (hs : swapsWith value (some (.Attribute o f pos')) pos.line X.env = pure false) : PS X (.Assign [.Attribute o f pos'] value pos) (zrt X.K ta tv f) := by
 intro pins s σ H D I h
 refine plainObj_wpAny_Assign_Attribute (thn (hv pins s σ H _ I h) fun u s1 ⟨y, H1, I1, ry, q⟩ => thn (ha pins s1 σ H1 _ I1 q) fun ov s2 hz9 => ?_) hs
 obtain ⟨x, H2, I2, rx, e, C, ex, he, S, q2⟩ := hz9
 subst ex
 obtain rfl : ov = Value.ref e := rx
 obtain ⟨t0, ho⟩ : zoe e C none s2.heap := (I2.hok e _ he).1
 obtain ⟨hh, g, d, tk, os⟩ := s2
 refine zvl I2.kIn S ho rfl rfl rfl rfl fun h' tk' hget hns hk => ?_
 have hes : e ≠ hh.objs.size := Nat.ne_of_lt (Heap.lt_size ho)
 have hmk : ∀ b u, b ≠ e -> hh.get? b = some u -> (hh.update e fun o => { cls := o.cls, dict := some hh.objs.size, data := o.data, slots := o.slots }).get? b = some u := fun b u hb z => (Heap.get?_update_ne _ _ _ _ hb).trans z
 have hme : (hh.update e fun o => { cls := o.cls, dict := some hh.objs.size, data := o.data, slots := o.slots }).get? e = some { cls := .ref C, dict := some hh.objs.size, data := .fields #[t0, .none, .none, .none, .bool false, .none] } := Heap.get?_update_self _ ho rfl
 have I3 := Inv.write (o:=ErrO e C (some hh.objs.size)) (t':=tk') I2 (by rw [he]; trivial) (.inl rfl) hmk ⟨_, hme⟩ (zlp ⟨_, hme⟩)
 have hkk : ∀ b u, (hh.update e fun o => { cls := o.cls, dict := some hh.objs.size, data := o.data, slots := o.slots }).get? b = some u -> h'.get? b = some u := fun b u z => by
  by_cases hb : b = e
  ·subst hb; rw [hme] at z; cases z; exact hget
  ·have z2 := (Heap.get?_update_ne _ _ _ _ hb).symm.trans z
   exact hk b u hb z2
 have hsz : (hh.update e fun o => { cls := o.cls, dict := some hh.objs.size, data := o.data, slots := o.slots }).objs.size <= hh.objs.size := by simp [Heap.update]
 have I4 := Inv.laid (a:=hh.objs.size) (o:=.xd [(f, y)]) (t':=tk') I3 hkk hsz ⟨_, hns, fun n => ?_⟩
 ·exact ⟨σ, _, I4, q2 _ (I2.hok.fresh (Nat.le_refl _)) hes.symm⟩
 ·by_cases hn : n = f
  ·subst hn; simp [List.lookup]; exact ry
  ·have : (n == f) = false := by simpa using hn
   simp [List.lookup, this, hn]; trivial
end
end L2
namespace L2
open PySem
noncomputable def zys (M : Model) (Γ : _root_.PySem.Ctx) (p : Pos) (s : Shared) : Sem PySem.Fin -> Option (_root_.PySem.Ctx × Pos × Sem PySem.Fin × Shared)
 | .pure (.again c) => some (Γ.goto c, p, M.den c, s)
 | .rule _ k => some (Γ, p, k (), s)
 | .at p' k => some (Γ, p', k (), s)
 | .load a _ k => (s.heap.get? a).map fun o => (Γ, p, k o, s)
 | .update a _ f k => some (Γ, p, k (), { s with heap := s.heap.update a f })
 | .loadIfAlive a k => some (Γ, p, k (s.heap.get? a), s)
 | .point _ k => some (Γ, p, k (), s)
 | .alloc o k => some (Γ, p, k s.heap.objs.size, { s with heap := s.heap.push o })
 | .fresh k => some (Γ, p, k s.toks, { s with toks := s.toks + 1 })
 | .ask k => some (Γ, p, k ⟨M.prog, M.w.params⟩, s)
 | .choose src n k => some (Γ, p, k (M.w.draws src (s.drawn.get src) % n), { s with drawn := s.drawn.bump src })
 | .os q _ k => some (Γ, p, k (Os.step s.os q).2, { s with os := (Os.step s.os q).1 })
 | .handled own k => some (Γ, p, k (if own then Γ.own else Γ.handled), s)
 | .genState g k => (s.gens[g]?).map fun st => (Γ, p, k st.seen, s)
 | .stack k => some (Γ, p, k ((Γ.code, p) :: Γ.below), s)
 | .thread k => some (Γ, p, k 0, s)
 | .newGen c k => some (Γ, p, k s.gens.size, { s with gens := s.gens.push (.fresh c) })
 | _ => none
theorem za8 {M : Model} {e : End} {s' : Shared} {x y : _root_.PySem.Ctx × Pos × Sem PySem.Fin × Shared} (h : some y = some x) (r : _root_.PySem.Runs M y.1 y.2.1 y.2.2.1 [] y.2.2.2 e s') : _root_.PySem.Runs M x.1 x.2.1 x.2.2.1 [] x.2.2.2 e s' := Option.some.inj h ▸ r
theorem zax {M : Model} {Γ : _root_.PySem.Ctx} {p : Pos} {t : Sem PySem.Fin} {s s' : Shared} {e : End} (h : _root_.PySem.Runs M Γ p t [] s e s') (x : _root_.PySem.Ctx × Pos × Sem PySem.Fin × Shared) (hx : zys M Γ p s t = some x) : _root_.PySem.Runs M x.1 x.2.1 x.2.2.1 [] x.2.2.2 e s' := by
 cases h with
 | again _ r => exact za8 hx r
 | rule r => exact za8 hx r
 | «at» r => exact za8 hx r
 | load e1 r => exact za8 (Eq.trans (congrArg (Option.map _) e1.symm) hx) r
 | update _ r => exact za8 hx r
 | loadIfAlive r => exact za8 hx r
 | point r => exact za8 hx r
 | alloc r => exact za8 hx r
 | fresh r => exact za8 hx r
 | ask r => exact za8 hx r
 | choose _ r => exact za8 hx r
 | os r => exact za8 hx r
 | handled r => exact za8 hx r
 | genState e1 r => exact za8 (Eq.trans (congrArg (Option.map _) e1.symm) hx) r
 | stack r => exact za8 hx r
 | thread r => exact za8 hx r
 | newGen r => exact za8 hx r
 | _ => exact absurd hx (fun z => Option.noConfusion rfl (heq_of_eq z))
theorem zi6 {M : Model} {Γ : _root_.PySem.Ctx} {p : Pos} {t : Sem PySem.Fin} {fs : List Frame} {s s' : Shared} {e : End} (h : _root_.PySem.Runs M Γ p t fs s e s') :
  ∀ {e2 s2}, _root_.PySem.Runs M Γ p t fs s e2 s2 -> e2 = e /\ s2 = s' := by
 induction h with
 | done => intro e2 s2 h2; cases h2; exact ⟨rfl, rfl⟩
 | raise => intro e2 s2 h2; cases h2; exact ⟨rfl, rfl⟩
 | yield => intro e2 s2 h2; cases h2; exact ⟨rfl, rfl⟩
 | again _ _ ih => intro e2 s2 h2; exact ih (zax h2 _ rfl)
 | rule _ ih => intro e2 s2 h2; exact ih (zax h2 _ rfl)
 | «at» _ ih => intro e2 s2 h2; exact ih (zax h2 _ rfl)
 | load e1 _ ih => intro e2 s2 h2; exact ih (zax h2 (_, _, _, _) (congrArg (Option.map _) e1))
 | update _ _ ih => intro e2 s2 h2; exact ih (zax h2 _ rfl)
 | loadIfAlive _ ih => intro e2 s2 h2; exact ih (zax h2 _ rfl)
 | point _ ih => intro e2 s2 h2; exact ih (zax h2 _ rfl)
 | alloc _ ih => intro e2 s2 h2; exact ih (zax h2 _ rfl)
 | fresh _ ih => intro e2 s2 h2; exact ih (zax h2 _ rfl)
 | ask _ ih => intro e2 s2 h2; exact ih (zax h2 _ rfl)
 | choose _ _ ih => intro e2 s2 h2; exact ih (zax h2 _ rfl)
 | os _ ih => intro e2 s2 h2; exact ih (zax h2 _ rfl)
 | handled _ ih => intro e2 s2 h2; exact ih (zax h2 _ rfl)
 | genState e1 _ ih => intro e2 s2 h2; exact ih (zax h2 (_, _, _, _) (congrArg (Option.map _) e1))
 | stack _ ih => intro e2 s2 h2; exact ih (zax h2 _ rfl)
 | thread _ ih => intro e2 s2 h2; exact ih (zax h2 _ rfl)
 | newGen _ ih => intro e2 s2 h2; exact ih (zax h2 _ rfl)
 | call _ _ i1 i2 =>
  intro e2 s2 h2
  cases h2 with
  | call a b => obtain ⟨q, rfl⟩ := i1 a; cases q; exact i2 b
  | callSusp a => obtain ⟨q, rfl⟩ := i1 a; cases q
 | callSusp _ i1 =>
  intro e2 s2 h2
  cases h2 with
  | call a b => obtain ⟨q, rfl⟩ := i1 a; cases q
  | callSusp a => obtain ⟨q, rfl⟩ := i1 a; cases q; exact ⟨rfl, rfl⟩
 | resumeFresh e1 _ _ _ i1 i2 =>
  intro e2 s2 h2
  cases h2 with
  | resumeFresh e3 a _ b => rw [e1] at e3; cases e3; obtain ⟨rfl, rfl⟩ := i1 a; exact i2 b
  | resumeSuspended e3 a _ b => rw [e1] at e3; cases e3
  | resumeJustStarted e3 a b => exact absurd rfl a
  | resumeRunning e3 a => rw [e1] at e3; cases e3
  | resumeFinished e3 a => rw [e1] at e3; cases e3
 | resumeSuspended e1 _ _ _ i1 i2 =>
  intro e2 s2 h2
  cases h2 with
  | resumeFresh e3 a _ b => rw [e1] at e3; cases e3
  | resumeSuspended e3 a _ b => rw [e1] at e3; cases e3; obtain ⟨rfl, rfl⟩ := i1 a; exact i2 b
  | resumeJustStarted e3 a b => rw [e1] at e3; cases e3
  | resumeThrowFresh e3 a => rw [e1] at e3; cases e3
  | resumeRunning e3 a => rw [e1] at e3; cases e3
  | resumeFinished e3 a => rw [e1] at e3; cases e3
 | resumeJustStarted e1 n1 _ i1 =>
  intro e2 s2 h2
  cases h2 with
  | resumeFresh e3 a _ b => exact absurd rfl n1
  | resumeSuspended e3 a _ b => rw [e1] at e3; cases e3
  | resumeJustStarted e3 a b => exact i1 b
  | resumeRunning e3 a => rw [e1] at e3; cases e3
  | resumeFinished e3 a => rw [e1] at e3; cases e3
 | resumeThrowFresh e1 _ i1 =>
  intro e2 s2 h2
  cases h2 with
  | resumeSuspended e3 a _ b => rw [e1] at e3; cases e3
  | resumeThrowFresh e3 a => exact i1 a
  | resumeRunning e3 a => rw [e1] at e3; cases e3
  | resumeFinished e3 a => rw [e1] at e3; cases e3
 | resumeRunning e1 _ i1 =>
  intro e2 s2 h2
  cases h2 with
  | resumeFresh e3 a _ b => rw [e1] at e3; cases e3
  | resumeSuspended e3 a _ b => rw [e1] at e3; cases e3
  | resumeJustStarted e3 a b => rw [e1] at e3; cases e3
  | resumeThrowFresh e3 a => rw [e1] at e3; cases e3
  | resumeRunning e3 a => exact i1 a
  | resumeFinished e3 a => rw [e1] at e3; cases e3
 | resumeFinished e1 _ i1 =>
  intro e2 s2 h2
  cases h2 with
  | resumeFresh e3 a _ b => rw [e1] at e3; cases e3
  | resumeSuspended e3 a _ b => rw [e1] at e3; cases e3
  | resumeJustStarted e3 a b => rw [e1] at e3; cases e3
  | resumeThrowFresh e3 a => rw [e1] at e3; cases e3
  | resumeRunning e3 a => rw [e1] at e3; cases e3
  | resumeFinished e3 a => exact i1 a
 | segRet _ _ i1 i2 =>
  intro e2 s2 h2
  cases h2 with
  | segRet a b => obtain ⟨q, rfl⟩ := i1 a; cases q; exact i2 b
  | segSuspOut _ a => obtain ⟨q, rfl⟩ := i1 a; cases q
  | segSuspGen _ a _ _ => obtain ⟨q, rfl⟩ := i1 a; cases q
 | segGen _ _ i1 i2 =>
  intro e2 s2 h2
  cases h2 with
  | segGen a b => obtain ⟨q, rfl⟩ := i1 a; cases q; exact i2 b
  | segSuspOut _ a => obtain ⟨q, rfl⟩ := i1 a; cases q
  | segSuspGen _ a _ _ => obtain ⟨q, rfl⟩ := i1 a; cases q
 | segSuspOut n1 _ i1 =>
  intro e2 s2 h2
  cases h2 with
  | segRet a b => obtain ⟨q, rfl⟩ := i1 a; cases q
  | segGen a b => obtain ⟨q, rfl⟩ := i1 a; cases q
  | segSuspOut _ a => obtain ⟨q, rfl⟩ := i1 a; cases q; exact ⟨rfl, rfl⟩
  | segSuspGen n2 a _ _ => rw [n1] at n2; cases n2
 | segSuspGen n1 _ _ _ i1 i2 =>
  intro e2 s2 h2
  cases h2 with
  | segRet a b => obtain ⟨q, rfl⟩ := i1 a; cases q
  | segGen a b => obtain ⟨q, rfl⟩ := i1 a; cases q
  | segSuspOut n2 a => rw [n1] at n2; cases n2
  | segSuspGen n2 a _ b => rw [n1] at n2; cases n2; obtain ⟨q, rfl⟩ := i1 a; cases q; exact i2 b
theorem zps {M : Model} {Γ : _root_.PySem.Ctx} {p : Pos} {g : Nat} {r : Resume} {s s' s2 : Shared} {res res2 : GenResult} (h : Wakes M Γ p g r s res s') (h2 : Wakes M Γ p g r s res2 s2) : res2 = res /\ s2 = s' := by
 unfold Wakes at h h2
 cases hg : s.gens[g]? with
 | none => simp only [hg] at h
 | some gs =>
  simp only [hg] at h h2
  cases gs with
  | fresh c =>
   cases r with
   | send v =>
    by_cases hv : v = .none
    ·subst hv
     obtain ⟨e1, s1, h1, _, rfl, rfl⟩ := h
     obtain ⟨e3, s3, h3, _, rfl, rfl⟩ := h2
     obtain ⟨rfl, rfl⟩ := zi6 h1 h3
     exact ⟨rfl, rfl⟩
    ·have a : res = .justStarted /\ s' = s := by cases v <;> first | exact absurd rfl hv | exact h
     have b : res2 = .justStarted /\ s2 = s := by cases v <;> first | exact absurd rfl hv | exact h2
     rw [a.1, a.2, b.1, b.2]; exact ⟨rfl, rfl⟩
   | throw x => obtain ⟨rfl, rfl⟩ := h; obtain ⟨rfl, rfl⟩ := h2; exact ⟨rfl, rfl⟩
  | suspended k0 _ c0 p0 fs _ =>
   obtain ⟨e1, s1, h1, _, rfl, rfl⟩ := h
   obtain ⟨e3, s3, h3, _, rfl, rfl⟩ := h2
   obtain ⟨rfl, rfl⟩ := zi6 h1 h3
   exact ⟨rfl, rfl⟩
  | running => obtain ⟨rfl, rfl⟩ := h; obtain ⟨rfl, rfl⟩ := h2; exact ⟨rfl, rfl⟩
  | finished => obtain ⟨rfl, rfl⟩ := h; obtain ⟨rfl, rfl⟩ := h2; exact ⟨rfl, rfl⟩
theorem zva {α : Type} {M : Model} {Γ : _root_.PySem.Ctx} {Q Q' : α -> Pos -> Shared -> Prop} {E E' : Value -> Pos -> Shared -> Prop} (t : Sem α) : ∀ (p : Pos) (s : Shared), Sem.wp M Γ t Q E p s -> Sem.wp M Γ t Q' E' p s ->
  Sem.wp M Γ t (fun a p s => Q a p s /\ Q' a p s) (fun e p s => E e p s /\ E' e p s) p s := by
 induction t with
 | pure x => exact fun p s h h' => ⟨h, h'⟩
 | raise v => exact fun p s h h' => ⟨h, h'⟩
 | unsupported | finish | yield | fork | await | register => exact fun p s h h' => h
 | rule _ k ih | «at» _ k ih | alloc _ k ih | loadIfAlive _ k ih | point _ k ih | ask k ih | os _ _ k ih | handled _ k ih | newGen _ k ih | stack k ih | thread k ih | fresh k ih => exact fun p s h h' => ih _ _ _ h h'
 | load a _ k ih | genState a k ih => exact fun p s ⟨o, ho, h⟩ ⟨o', ho', h'⟩ => by rw [ho] at ho'; cases ho'; exact ⟨o, ho, ih _ _ _ h h'⟩
 | update a _ f k ih | choose _ _ k ih => exact fun p s ⟨ha, h⟩ ⟨_, h'⟩ => ⟨ha, ih _ _ _ h h'⟩
 | call c h g l k ih => exact fun p s ⟨r, s1, h1, h2⟩ ⟨r', s1', h1', h2'⟩ => by obtain ⟨q, rfl⟩ := zi6 h1 h1'; cases q; exact ⟨_, _, h1, ih _ _ _ h2 h2'⟩
 | resume g r l k ih => exact fun p s ⟨res, s1, hw, h⟩ ⟨res', s1', hw', h'⟩ => by obtain ⟨rfl, rfl⟩ := zps hw hw'; exact ⟨_, _, hw, ih _ _ _ h h'⟩
theorem zch {α : Type} {t : Sem α} {Q Q' : α -> Shared -> Prop} {M : Model} {A : Around} {E E' : Value -> Shared -> Prop} {s : Shared} (h : wpAny M A t Q E s) (h' : wpAny M A t Q' E' s) : wpAny M A t (fun a s => Q a s /\ Q' a s) (fun e s => E e s /\ E' e s) s :=
 fun Γ p hΓ => zva t p s (h Γ p hΓ) (h' Γ p hΓ)
end L2
namespace L2
open PySem PySem.W PySem.Spec PyProof.Rows
noncomputable def fld2 (o : Obj) : Option Value := match o.data with
 | .fields vs => vs[2]?
 | _ => none
noncomputable def DK (h h' : Heap) : Prop := ∀ b o, h.get? b = some o -> ∃ o', h'.get? b = some o' /\ o'.dict = o.dict /\ fld2 o' = fld2 o
theorem DK.trans {h1 h2 h3 : Heap} (x : DK h1 h2) (y : DK h2 h3) : DK h1 h3 := fun b o e => by
 obtain ⟨o1, e1, q1, r1⟩ := x b o e
 obtain ⟨o2, e2, q2, r2⟩ := y b o1 e1
 exact ⟨o2, e2, q2.trans q1, r2.trans r1⟩
theorem zvy (h : Heap) (o : Obj) : DK h (h.push o) := fun b u e => ⟨u, Heap.get?_push_of_some _ e, rfl, rfl⟩
theorem zha (g : Array Value -> Array Value) (o : Obj) : (Obj.mapFields g o).dict = o.dict := by
 obtain ⟨c, d, da, sl⟩ := o
 cases da <;> rfl
theorem zdm {h : Heap} {a : Addr} {o : Obj} {vs : Array Value} (k : Nat) (v : Value) (ho : h.get? a = some o) (hd : o.data = .fields vs) (hk : k ≠ 2) : DK h (h.update a (Obj.mapFields (·.setIfInBounds k v))) := fun b u e => by
 by_cases hb : b = a
 ·subst hb
  rw [ho] at e; cases e
  have hg := Obj.data_mapFields hd (·.setIfInBounds k v)
  refine ⟨_, Heap.get?_update_self (Obj.mapFields (·.setIfInBounds k v)) ho (Obj.isFreed_of_fields hg), zha _ o, ?_⟩
  unfold fld2
  rw [hg, hd]
  show (vs.setIfInBounds k v)[2]? = vs[2]?
  exact Array.getElem?_setIfInBounds_ne hk
 ·exact ⟨u, (Heap.get?_update_other _ _ (Ne.symm hb)).trans e, rfl, rfl⟩
section
variable {M : Model} {A : Around} {E : Value -> Shared -> Prop} {s : Shared} {B : Heap} {env : Env} {outer : List Env} {L e : Addr}
theorem zi4 {oe : Obj} {vs : Array Value} {head : Value} {hn : Bool} (q1 : A.frames = some (env :: outer)) (q2 : s.heap.FunFrames B (env :: outer)) (q3 : env.frame = some L) (q4 : s.heap.get? e = some oe) (q5 : oe.data = .fields vs) (q6 : 1 < vs.size) :
  wpAny M A (do let a <- frameOf env; let pl <- entryPlaceOf L hn; let b <- EntryCells.newEntry head a .none (rawInt L) .none pl; setField (.ref e) 1 b) (fun _ s' => DK s.heap s'.heap) E s := by
 have ne : e ∉ (env :: outer).filterMap (·.frame) := fun z => by
  obtain ⟨_, o, ho, nf⟩ := q2.mem z
  rw [q4] at ho; cases ho; exact nf vs q5
 refine wpAny_bind (wpAny_frameOf_fun q1 q2 q3 fun g kk => wpAny_bind (wpAny_entryPlaceOf fun pl hp => ?_))
 unfold EntryCells.newEntry newFields
 have k1 : DK s.heap g := fun b o z => by obtain ⟨sl, z2⟩ := kk.2.2 b o z; exact ⟨_, z2, rfl, rfl⟩
 have k2 : g.get? e = some oe := (kk.2.1 e ne).trans q4
 exact wpAny_bind (wpAny_newObj_type (wpAny_setField (Heap.get?_push_of_some _ k2) q5 q6 (k1.trans ((zvy _ _).trans (zdm _ _ (Heap.get?_push_of_some _ k2) q5 (by decide))))) (hp.sizeOk5 _ _ _ _ _))
theorem zsr {oe : Obj} {vs : Array Value} (q1 : A.frames = some (env :: outer)) (q2 : s.heap.FunFrames B (env :: outer)) (q3 : env.frame = some L) (q4 : s.heap.get? e = some oe) (q5 : oe.data = .fields vs) (q6 : vs[1]? = some .none) :
  wpAny M A (noteFrame (.ref e) env) (fun _ s' => DK s.heap s'.heap) E s := by
 unfold noteFrame
 simp only [q3]
 refine wpAny_bind (wpAny_field q4 q5 q6 ?_)
 rw [if_neg (by decide)]
 exact zi4 q1 q2 q3 q4 q5 (Array.getElem?_eq_some_iff.mp q6).1
theorem zr4 {C a0 : Value} (q1 : A.frames = some (env :: outer)) (q2 : s.heap.FunFrames B (env :: outer)) (q3 : env.frame = some L) (q4 : s.heap.TracedW B e C a0) : wpAny M A (noteFrame (.ref e) env) (fun _ s' => DK s.heap s'.heap) E s := by
 obtain ⟨oe, vs, T, oT, ts, he, ⟨_, _⟩, hd, h1, hnT, hTe, hT, hdT, h3⟩ := q4
 unfold noteFrame
 simp only [q3]
 refine wpAny_bind (wpAny_field he hd h1 ?_)
 rw [if_pos (by simp)]
 refine wpAny_bind (wpAny_field hT hdT h3 ?_)
 rw [if_neg (by simp [rawInt])]
 have k1 := zdm 3 Value.none hT hdT (by decide)
 refine wpAny_bind (wpAny_setField hT hdT (Array.getElem?_eq_some_iff.mp h3).1 ?_)
 have oth : ∀ b, b ≠ T -> (s.heap.update T (Obj.mapFields (·.setIfInBounds 3 Value.none))).get? b = s.heap.get? b := fun b hb => Heap.get?_update_other _ _ (Ne.symm hb)
 have nr : ∀ b o, s.heap.get? b = some o -> (∀ vs, o.data ≠ .fields vs) -> b ≠ T := fun b o hb nf q => by rw [q, hT] at hb; cases hb; exact nf ts hdT
 exact thn (zi4 q1 (q2.of_keeps fun b o hb nf => ⟨o, (oth b (nr b o hb nf)).trans hb, rfl⟩) q3 ((oth e (Ne.symm hTe)).trans he) hd (Array.getElem?_eq_some_iff.mp h1).1) fun _ _ k => k1.trans k
theorem zq3 {C a0 fl : Value} (q4 : s.heap.TracedAtW B e C a0 fl) : wpAny M A (setFlight (.ref e) none) (fun _ s' => DK s.heap s'.heap) E s := by
 obtain ⟨oe, vs, T, oT, ts, he, _, hd, h1, _, _, hT, hdT, h3⟩ := q4
 unfold setFlight
 refine wpAny_bind (wpAny_field he hd h1 ?_)
 rw [if_pos (by simp)]
 exact wpAny_setField hT hdT (Array.getElem?_eq_some_iff.mp h3).1 (zdm _ _ hT hdT (by decide))
end
end L2
namespace L2
open PySem PySem.W PySem.Spec PyProof.Rows
noncomputable def zo2 (c : Bool) (h : Heap) (e : Addr) (dd : Option Addr) : Prop := ∃ o, h.get? e = some o /\ o.dict = dd /\ (c = true -> fld2 o = some .none)
theorem DK.is {c : Bool} {h h' : Heap} {e : Addr} {dd : Option Addr} (k : DK h h') (x : zo2 c h e dd) : zo2 c h' e dd := by
 obtain ⟨o, e1, q, r⟩ := x
 obtain ⟨o', e2, q2, r2⟩ := k e o e1
 exact ⟨o', e2, q2.trans q, fun z => r2.trans (r z)⟩
section
variable {M : Model} {A : Around} {E : Value -> Shared -> Prop} {s : Shared} {B : Heap} {env : Env} {outer : List Env} {L e : Addr} {C a0 : Value} {Q : Unit -> Shared -> Prop}
theorem ztl {h0 : Heap} {m : Sem Unit} (hm : wpAny M A m (fun _ s' => (∃ fl, s'.heap.TracedAtW B e C a0 fl) /\ DK h0 s'.heap) E s) : wpAny M A (m >>= fun _ => setFlight (.ref e) none) (fun _ s' => DK h0 s'.heap) E s :=
 wpAny_bind (wpAny_mono hm (fun _ s1 ⟨⟨fl, t⟩, k⟩ => wpAny_mono (zq3 t) (fun _ _ k2 => k.trans k2) fun _ _ z => z) fun _ _ z => z)
theorem zjb {oe : Obj} {vs : Array Value} (q1 : A.frames = some (env :: outer)) (q2 : s.heap.FunFrames B (env :: outer)) (q3 : env.frame = some L) (q4 : s.heap.get? e = some oe) (qb : B.StaysIn s.heap) (qe : B.get? e = none) (q5 : oe.data = .fields vs) (q6 : vs[1]? = some .none)
  (q7 : vs[0]? = some a0) (h : ∀ h', Heap.FlyingW B outer e oe.cls a0 h' -> s.heap.UpToSlots h' -> DK s.heap h' -> Q () { s with heap := h' }) : wpAny M A (leaving env (.ref e)) Q E s := by
 refine wpAny_mono (zch (wpAny_leaving_firstW (Q:=fun _ s' => ∃ h', s' = { s with heap := h' } /\ Heap.LeftW B (env :: outer) e oe.cls a0 s.heap h') (E:=E) q1 q2 q3 q4 qb qe q5 q6 q7 fun h' a => ⟨h', rfl, a⟩) (ztl (E:=E) (C:=oe.cls) (a0:=a0) (B:=B) (m:=noteFrame (.ref e) env)
  (wpAny_mono (zch (Q:=fun _ s' => ∃ fl, s'.heap.TracedAtW B e oe.cls a0 fl) (E:=E) ?_ (zsr (E:=E) q1 q2 q3 q4 q5 q6)) (fun _ _ z => z) fun _ _ z => z.1))) (fun _ s' z => ?_) fun _ _ z => z.1
 ·unfold noteFrame
  simp only [q3]
  refine wpAny_bind (wpAny_field q4 q5 q6 ?_)
  rw [if_neg (by decide)]
  exact wpAny_entryW q1 q2 q3 q4 qb qe q5 (Array.getElem?_eq_some_iff.mp q6).1 q7 fun h' n => ⟨_, n.2.2.1⟩
 ·obtain ⟨⟨h', rfl, k1, ⟨_, _, k2⟩, k3, k4⟩, k⟩ := z
  exact h h' ⟨k1, qe, k2, k3⟩ k4 k
theorem zgc (q1 : A.frames = some (env :: outer)) (q3 : env.frame = some L) (fl : Heap.FlyingW B (env :: outer) e C a0 s.heap) (h : ∀ h', Heap.HeldW B (env :: outer) e C a0 L h' -> s.heap.UpToSlots h' -> DK s.heap h' -> Q () { s with heap := h' }) :
  wpAny M A (noteFrame (.ref e) env) Q E s := by
 refine wpAny_mono (zch (wpAny_looks_onW (Q:=fun _ s' => ∃ h', s' = { s with heap := h' } /\ Heap.HeldW B (env :: outer) e C a0 L h' /\ s.heap.UpToSlots h') (E:=E) q1 q3 fl fun h' a b => ⟨h', rfl, a, b⟩) (zr4 (E:=E) q1 fl.2.2.1 q3 fl.2.2.2)) (fun _ s' z => ?_) fun _ _ z => z.1
 obtain ⟨⟨h', rfl, a, b⟩, k⟩ := z
 exact h h' a b k
theorem zm6 {l : List Env} (hh : Heap.HeldW B l e C a0 L s.heap) (h : ∀ h', Heap.FlyingW B l e C a0 h' -> s.heap.UpToSlots h' -> DK s.heap h' -> Q () { s with heap := h' }) : wpAny M A (setFlight (.ref e) none) Q E s := by
 refine wpAny_mono (zch (wpAny_landsW (Q:=fun _ s' => ∃ h', s' = { s with heap := h' } /\ Heap.FlyingW B l e C a0 h' /\ s.heap.UpToSlots h') (E:=E) hh fun h' a b => ⟨h', rfl, a, b⟩) (zq3 (E:=E) hh.2.2.2)) (fun _ s' z => ?_) fun _ _ z => z.1
 obtain ⟨⟨h', rfl, a, b⟩, k⟩ := z
 exact h h' a b k
end
noncomputable def CXB (c : Bool) (P : Program) (w : World) : CXT := fun outer H s E e s' => ∃ (x C : Addr) (a0 : Value) (B : Heap) (H' : Hp) (dd : Option Addr), e = .ref x /\ s'.os = s.os /\ AllBare s'.gens /\ Un (frs outer) [] H H' s.heap s'.heap /\ HOk P w H' s'.heap /\
 Heap.FlyingW B outer x (.ref C) a0 s'.heap /\ (∀ b o, s.heap.get? b = some o -> b ∉ frs outer -> ∃ o', B.get? b = some o') /\ (∀ b u, H' b = some u -> ∃ o', B.get? b = some o') /\ s.heap.get? x = none /\ H' x = none /\ zo2 c s'.heap x dd /\ E (.ref C) dd H'
noncomputable abbrev CX2 := CXB false
theorem zxa {c : Bool} {P : Program} {w : World} {X : Cx} : zf6 (CXB c P w) X E0 := fun _ _ _ _ _ _ _ h => by
 obtain ⟨_, _, _, _, _, _, _, _, _, _, _, _, _, _, _, _, _, q⟩ := h
 exact q.elim
noncomputable def del (H : Hp) (e : Addr) : Hp := fun b => if b = e then none else H b
theorem zd1 {H : Hp} {e : Addr} : del H e e = none := by unfold del; rw [if_pos rfl]
theorem zd6 {H : Hp} {e b : Addr} (h : b ≠ e) : del H e b = H b := by unfold del; rw [if_neg h]
theorem znd {H : Hp} {e b : Addr} {u : HO} (h : del H e b = some u) : b ≠ e /\ H b = some u := by
 by_cases hb : b = e
 ·rw [hb, zd1] at h; cases h
 ·rw [zd6 hb] at h; exact ⟨hb, h⟩
section
variable {c : Bool} {P : Program} {w : World} {K : PySem.W.Frag} {mg : Str -> Option Value} {base : Heap} {N : List Str} {qual : Str} {scope : Scope} {f : Addr} {cd : Value} {A : Around} {outer : List Env} {s : Shared} {H : Hp} {E : XK}
theorem Un.del {fs : List Addr} {H H1 : Hp} {h h2 : Heap} {e : Addr} (U : Un fs [] H H1 h h2) (he : H e = none) : Un fs [] H (L2.del H1 e) h h2 where
 keep := U.keep
 slot := U.slot
 free := fun b o q n hx => by
  by_cases hb : b = e
  ·rw [hb]; exact zd1
  ·rw [zd6 hb]; exact U.free b o q n hx
 there := U.there
 tups := fun b xs q => by rw [zd6 (zam q he)]; exact U.tups b xs q
 frzs := fun b o u q => by rw [zd6 (zam q he)]; exact U.frzs b o u q
 tbls := fun b ps q => by obtain ⟨m, z⟩ := U.tbls b ps q; exact ⟨m, by rw [zd6 (zam q he)]; exact z⟩
theorem HOk.del {H : Hp} {h : Heap} {e : Addr} {φ : Heap -> Prop} (hok : HOk P w H h) (he : H e = some (.ext φ)) : HOk P w (L2.del H e) h := fun b u q => by
 obtain ⟨hb, q⟩ := znd q
 refine (hok b u q).stay (fun _ _ _ z => z) (fun c z => ?_) fun c xs z => ?_
 ·rw [zd6 (zyb z he (by intro z; cases z))]; exact z
 ·rw [zd6 (zyb z he (by intro z; cases z))]; exact z
end
noncomputable def zmx (h : Heap) (C : Addr) (bm : List Value) : Prop := ∃ nm q N bs hdct sn sub ab col dd k0 k1 k2 k3 k5 newId, h.get? C = some (excClassObj nm q C N bs bm hdct sn sub ab col dd k0 k1 k2 k3 k5 newId)
section
variable {M : Model} {A : Around} {E : Value -> Shared -> Prop} {env : Env}
theorem znm {s : Shared} {x : Sem Value} {Q : Flow -> Shared -> Prop} (hh : A.handled = none)
  (h : wpAny M A x (fun v s1 => ∃ e t de C bm, v = .ref e /\ zmx s1.heap C bm /\ bm.contains (.type "BaseException") = true /\
   s1.heap.get? e = some { cls := .ref C, dict := de, data := .fields #[t, .none, .none, .none, .bool false, .none] } /\ E (.ref e) s1) E s) :
  wpAny M A (raiseStmt env (some x) none) Q E s := by
 unfold raiseStmt
 refine wpAny_bind (wpAny_mono h (fun v s1 h1 => ?_) fun _ _ x => x)
 obtain ⟨e, t, de, C, bm, rfl, ⟨_, _, _, _, _, _, _, _, _, _, _, _, _, _, _, _, hC⟩, hb, he, hE⟩ := h1
 have hB : (Value.ref C :: bm).contains (.type "BaseException") = true := by rw [List.contains_cons, hb, Bool.or_true]
 obtain ⟨hp, g, d, tk, os⟩ := s1
 repeat (first | with_reducible refine wpAny_loadPart_at he ?_ | with_reducible refine wpAny_loadPart_at hC ?_ | (with_reducible refine wpAny_isSubtype_exc hC ?_; rw [hB]) | wp_step)
 exact wpAny_raiseNew_none hh hE
end
noncomputable def zq6 (K : PySem.W.Frag) (E : XK) (H₀ : Hp) (te : TE) : TS := fun _ σ H => te σ H fun v H1 => ∃ e C dd, v = .ref e /\ H1 e = some (ErrO e C dd) /\ H₀ e = none /\ (∃ fI, zi2 K C fI) /\ E (.ref C) dd (del H1 e)
section
variable {c : Bool} {P : Program} {w : World} {K : PySem.W.Frag} {mg : Str -> Option Value} {base : Heap} {N : List Str} {qual : Str} {scope : Scope} {f : Addr} {cd : Value} {A : Around} {outer : List Env} {s : Shared} {H : Hp} {E : XK}
theorem zo6 {pins : List (Addr × Obj)} {σ : St} {H2 : Hp} {s2 : Shared} {e C : Addr} {dd : Option Addr} {oe : Obj} {vs : Array Value} {φ : Heap -> Prop} {a0 : Value} (I2 : Inv (cxOf (CXB c P w) P w K mg base N qual scope f cd A outer s H E) pins σ H2 s2) (he : H2 e = some (.ext φ)) (hn : H e = none)
  (ho : s2.heap.get? e = some oe) (hc : oe.cls = .ref C) (hd : oe.dict = dd) (hv : oe.data = .fields vs) (h1 : vs[1]? = some .none) (h0 : vs[0]? = some a0) (h2 : c = true -> vs[2]? = some .none) (q : E (.ref C) dd (del H2 e)) :
  (cxOf (CXB c P w) P w K mg base N qual scope f cd A outer s H E).xe (.ref e) s2 := by
 have thr : ∀ b o, s.heap.get? b = some o -> ∃ o1, s2.heap.get? b = some o1 := fun b o e => I2.base.there b o e (fun z => nomatch z)
 have stk : s2.heap.FunFrames base (envOfC qual scope s.heap.objs.size f cd :: outer) := I2.stack
 have nx : s.heap.get? e = none := by
  cases z : s.heap.get? e with
  | none => rfl
  | some o =>
   have := I2.base.free e o z hn (fun z => nomatch z)
   rw [he] at this; cases this
 generalize hfr : (envOfC qual scope s.heap.objs.size f cd :: outer).filterMap (·.frame) = fr
 have hin : ∀ env ∈ (envOfC qual scope s.heap.objs.size f cd :: outer), ∀ b, env.frame = some b -> b ∈ e :: fr := fun env hz b hb => List.mem_cons_of_mem _ (by rw [<- hfr]; exact List.mem_filterMap.mpr ⟨env, hz, hb⟩)
 have hfs : frs (envOfC qual scope s.heap.objs.size f cd :: outer) = fr := hfr
 generalize hB : hideAll s2.heap (e :: fr) = B
 have bst : B.StaysIn s2.heap := fun b o e => by rw [<- hB] at e; exact of_hideAll _ e
 have bget : ∀ b o, s2.heap.get? b = some o -> b ∉ e :: fr -> B.get? b = some o := fun b o e hb => by rw [<- hB]; exact hideAll_get _ e hb
 have bff : s2.heap.FunFrames B (envOfC qual scope s.heap.objs.size f cd :: outer) := by rw [<- hB]; exact funFrames_hide stk hin
 have be : B.get? e = none := by rw [<- hB]; exact hideAll_none _ (List.mem_cons_self ..)
 have c1 : ∀ b o, s.heap.get? b = some o -> b ∉ frs outer -> ∃ o', B.get? b = some o' := fun b o z hb => by
  obtain ⟨o1, e1⟩ := thr b o z
  refine ⟨o1, bget b o1 e1 fun k => ?_⟩
  rcases List.mem_cons.mp k with k | k
  ·rw [k, nx] at z; cases z
  ·have k : b ∈ s.heap.objs.size :: frs outer := by rw [<- hfs] at k; exact k
   rcases List.mem_cons.mp k with k | k
   ·exact absurd (Heap.lt_size z) (by rw [k]; exact Nat.lt_irrefl _)
   ·exact hb k
 have tin : ∀ b u, del H2 e b = some u -> ∃ o', B.get? b = some o' := fun b u z => by
  obtain ⟨hb, z⟩ := znd z
  obtain ⟨o, ho⟩ : ∃ o, s2.heap.get? b = some o := (I2.hok b u z).there
  refine ⟨o, bget b o ho fun k => ?_⟩
  rcases List.mem_cons.mp k with k | k
  ·exact hb k
  ·have := I2.stkFree b (by rw [<- hfs] at k; exact k)
   rw [z] at this; cases this
 refine zjb I2.ok.frames bff rfl ho bst be hv h1 h0 fun h3 fl3 up dk => ?_
 rw [hc] at fl3
 refine ⟨e, C, a0, B, del H2 e, dd, rfl, I2.os, I2.bare, ?_, (I2.hok.del he).fly tin bst fl3.1, fl3, c1, tin, nx, zd1, dk.is ⟨oe, ho, hd, fun z => by unfold fld2; rw [hv]; exact h2 z⟩, q⟩
 exact Un.fly (B:=B) (I2.base.del hn) bst fl3.1 c1 up fun b hb => (stk.mem (b:=b) (List.mem_cons_of_mem _ hb)).2
theorem zjo {x : Expr} {te : TE} {pos : Pos} (hp : PE (cxOf (CXB c P w) P w K mg base N qual scope f cd A outer s H E) x te) : PS (cxOf (CXB c P w) P w K mg base N qual scope f cd A outer s H E) (.Raise (some x) none pos) (zq6 K E H te) := by
 intro pins s1 σ H1 D I h
 have W := hp pins s1 σ H1 _ I h
 show wpAny _ _ (do standAt pos; raiseStmt _ (some (do let v <- eval x _; standAt pos; pure v)) none) _ _ s1
 refine wpAny_bind (wpAny_standAt (znm (I.ok.hd rfl) (wpAny_bind (thn W fun v s2 ⟨u, H2, I2, ru, e, C, dd, eu, he, hn, ⟨fI, hx⟩, q⟩ => wpAny_bind (wpAny_standAt (wpAny_pure ?_))))))
 subst eu
 obtain rfl : v = Value.ref e := ru
 obtain ⟨tl, Na, nm, q', bs, hdct, sn, sub, ab, col, dc, k0, k1, k2, k3, k5, mN, hC, hN, hni, T⟩ := zeg I2.kIn hx
 obtain ⟨t0, ho⟩ : zoe e C dd s2.heap := (I2.hok e _ he).1
 exact ⟨e, t0, dd, C, tl, rfl, ⟨_, _, _, _, _, _, _, _, _, _, _, _, _, _, _, _, hC⟩, T.hasType PySem.F.excBase_ValueError.hasBase, ho, zo6 I2 he hn ho rfl rfl rfl rfl rfl (fun _ => rfl) q⟩
end
end L2
namespace L2
open PySem PySem.W PySem.Spec PyProof.Rows
noncomputable def zis (C : Addr) (sp : Sp) (E : XK) (t : TA) : TE := fun σ H Q => t σ H fun vs H1 => ∀ e, H1 e = none -> sp (.ref e :: vs) (upd H1 e (ErrO e C none)) (fun v H2 => v = .non /\ Q (.ref e) H2) E
structure XMk (K : PySem.W.Frag) (C f : Addr) : Prop where
 cls : zi2 K C f
 fn : PySem.W.isFn K (.ref f) = true
 kp : PySem.W.keepIn K (.ref C) = true
section
variable {X : Cx} {CX : CXT} {k : Nat} {f C : Addr} {fd : FuncData} {ps : List Str} {sp : Sp} {E : XK} {x : Str} {p pos : Pos} {e : Expr} {es : List Expr} {t : TA}
theorem zj9 (M : XMk X.K C f) (F : FnOk X.prog X.w X.K X.mg X.base CX k f fd ps sp) (hr : Room (k + 1) X.A) (hg : Gl X x) (hm : X.mg x = some (.ref C)) (hb : zb0 X.K fd ps []) (hx : zf6 CX X E)
  (ha : PA X (e :: es) t) (hsz : ps.length <= 100) (hdb : (x == ("__debug__" : Str)) = false := by decide) (he : starEach (e :: es) X.env = (false, eval e X.env) :: starEach es X.env := by rfl) (hpl : (backTo pos (starEach es X.env)).any (·.1) = false := by rfl) :
  PE X (.Call (.Name x p) (e :: es) [] pos) (zis C sp E t) := by
 intro pins s σ H Q I h
 refine wpAny_Call_Name_kw (zdl I hg hm ?_ hdb)
 refine PySem.W.callWith_K (h₀:=X.base) I.ok.mod.kin M.kp (thn (ha pos pins s σ H _ I h) fun us s1 ⟨vs, H1, I1, r, q⟩ => ⟨I1.kIn, ?_⟩) he hpl
 obtain ⟨tl, Na, nm, q', bs, hdct, sn, sub, ab, col, dc, k0, k1, k2, k3, k5, mN, hC, hN, hni, T⟩ := zeg I1.kIn M.cls
 obtain ⟨oI, hoI, hcI⟩ := Option.map_eq_some_iff.mp (beq_iff_eq.mp M.fn)
 obtain ⟨hh, g, d, tk, os⟩ := s1
 refine zhf PySem.F.excBase_ValueError (by decide) PySem.F.excBase_ValueError T hC hN hni (I1.kIn f oI hoI) hcI (fun h' e' hs hmd => ?_) ?_
 ·have I2 := Inv.errMade (s:=⟨hh, g, d, tk, os⟩) (C:=C) I1 hs hmd
  have hq := q e' (I1.hok.fresh hs)
  have r2 : Vals (V.ref e' :: vs) (Value.ref e' :: us) := .cons rfl r
  have hl : (Value.ref e' :: us ++ []).length = ps.length := by
   have z := r2.length
   rw [F.len _ _ _ _ hq] at z
   rw [List.append_nil]; exact z.symm
  have hb' := hb ⟨h', g, d, tk, os⟩ (Value.ref e' :: us) I2.kIn hl
  rw [List.append_nil] at hb'
  refine wpAny_call (codeAny_mono (F.run _ X.stack _ _ ⟨Value.ref e' :: us, []⟩ (Value.ref e' :: us) _ _ E (hr.make C us []) (I2.env0.make C us []) hb' r2 hq) fun r s' hq' => ?_)
  cases r with
  | error e => exact hx pins σ _ _ e s' I2 hq'
  | ok fl =>
   cases fl with
   | ret u =>
    obtain ⟨v, H', I3, rv, ev, q3⟩ := I2.after hq'
    subst ev
    exact ⟨rv, ⟨V.ref e', H', I3, rfl, q3⟩⟩
   | next => exact False.elim hq'
   | brk => exact False.elim hq'
   | cont => exact False.elim hq'
 ·have z := q hh.objs.size (I1.hok.fresh (Nat.le_refl _))
  have z2 := F.len _ _ _ _ z
  have z3 : vs.length + 1 = ps.length := z2
  have z4 := r.length
  rw [sizeLine_eq, List.nil_append]; lia
end
theorem zew {M : Model} {A : Around} {E : Value -> Shared -> Prop} {s : Shared} {B : Heap} {l : List Env} {e : Addr} {C a0 : Value} {Q : Unit -> Shared -> Prop} (fl : Heap.FlyingW B l e C a0 s.heap)
  (h : ∀ h', Heap.FlyingW B l e C a0 h' -> s.heap.UpToSlots h' -> DK s.heap h' -> Q () { s with heap := h' }) : wpAny M A (setFlight (.ref e) none) Q E s := by
 refine wpAny_mono (zch (lands_againW (Q:=fun _ s' => ∃ h', s' = { s with heap := h' } /\ Heap.FlyingW B l e C a0 h' /\ s.heap.UpToSlots h') (E:=E) fl fun h' a b => ⟨h', rfl, a, b⟩) (zq3 (E:=E) fl.2.2.2.at)) (fun _ s' z => ?_) fun _ _ z => z.1
 obtain ⟨⟨h', rfl, a, b⟩, k⟩ := z
 exact h h' a b k
noncomputable def zi3 (x C : Addr) (dd : Option Addr) : HO := .ext fun h => ∃ o, h.get? x = some o /\ o.cls = .ref C /\ o.dict = dd /\ notCls o = true
section
variable {X : Cx} {pins : List (Addr × Obj)} {σ : St} {H : Hp} {s : Shared} {x : Addr}
theorem Inv.adoptX2 {C : Addr} {dd : Option Addr} (I : Inv X pins σ H s) (hn : H x = none) (h0 : X.s₀.heap.get? x = none) (hL : x ≠ X.env.locals) (hc : ∀ y c, X.env.cells.lookup y = some c -> c ≠ x) (hp : ∀ p ∈ X.pn ++ pins, p.1 ≠ x)
  (ho : ∃ o, s.heap.get? x = some o /\ o.cls = .ref C /\ o.dict = dd /\ notCls o = true) : Inv X pins σ (upd H x (zi3 x C dd)) s := by
 refine ⟨I.ok, I.os, I.bare, ⟨I.base.keep, I.base.slot, fun b o e n hx => ?_, I.base.there, fun b xs e => ?_, fun b o u e => ?_, fun b ps e => ?_⟩, I.loc, I.cell, ?_, fun y c e => ?_, fun p hq => ?_, fun b u e => ?_, I.len⟩
 ·have : b ≠ x := fun z => by rw [z, h0] at e; cases e
  rw [zaj this]; exact I.base.free b o e n hx
 ·have := I.base.tups b xs e
  rw [zaj (zam this hn)]; exact this
 ·have := I.base.frzs b o u e
  rw [zaj (zam this hn)]; exact this
 ·obtain ⟨more, this⟩ := I.base.tbls b ps e
  exact ⟨more, by rw [zaj (zam this hn)]; exact this⟩
 ·rw [zaj (Ne.symm hL)]; exact I.free
 ·rw [zaj (hc y c e)]; exact I.freeC y c e
 ·obtain ⟨e, n, ne, nf, d⟩ := I.pin p hq
  exact ⟨e, by rw [zaj (hp p hq)]; exact n, ne, nf, d⟩
 ·by_cases hb : b = x
  ·subst hb
   rw [zal] at e
   cases e
   obtain ⟨o, h1, h2⟩ := ho
   exact ⟨⟨o, h1, h2⟩, ⟨o, h1⟩, fun h1 h2 ⟨o, ho, r⟩ k => ⟨o, k o ho, r⟩⟩
  ·rw [zaj hb] at e
   exact (I.hok b u e).stay (fun _ _ _ q => q) (fun c q => by rw [zaj (zam q hn)]; exact q) fun c xs q => by rw [zaj (zam q hn)]; exact q
noncomputable def zov (K : PySem.W.Frag) (sp : Sp) (ta : TA) (i : Nat) (CF : Addr) (ts : TS) : TS := fun D σ H => ta σ H fun vs H1 => sp vs H1 (fun _ H2 => D.nx σ H2) (fun cls dd H2 => ∃ C, cls = .ref C /\ exmOne K (.ref C) (.ref CF) = some true /\ ∀ x, H2 x = none ->
 ts { nx := fun σ' H' => ∃ v, σ'[i]? = some (some v) /\ D.nx (σ'.set i none) H', rt := fun _ _ => False } (σ.set i (some (.ref x))) (upd H2 x (zi3 x C dd)))
theorem zsk {c : Bool} {CF : Addr} {cn n : Str} {np hp : Pos} {i : Nat} {b₀ : Stmt} {suite : List Stmt} {ts : TS} {D : Ends} {H1 : Hp} {s1 s2 : Shared} {ev : Value} (I1 : Inv X pins σ H1 s1)
  (hgc : Gl X cn) (hmc : X.mg cn = some (.ref CF)) (hN : X.N.Nodup) (hi : X.N[i]? = some n) (hx : X.env.scope.names.lookup n = some .local) (hs : ∀ x, PSs (X.inSuite x) (b₀ :: suite) ts) (hst : X.stack = X.env :: X.outer /\ X.env.frame = some X.env.locals /\ X.ex = [])
  (hq : CXB c X.prog X.w X.stack H1 s1 (fun cls dd H2 => ∃ C, cls = .ref C /\ exmOne X.K (.ref C) (.ref CF) = some true /\ ∀ x, H2 x = none ->
   ts { nx := fun σ' H' => ∃ v, σ'[i]? = some (some v) /\ D.nx (σ'.set i none) H', rt := fun _ _ => False } (σ.set i (some (.ref x))) (upd H2 x (zi3 x C dd))) ev s2) (hdc : (cn == ("__debug__" : Str)) = false) :
  wpAny (model X.prog X.w) X.A (noteFrame ev X.env) (fun _ s3 => wpAny (model X.prog X.w) X.A (setFlight ev none) (fun _ s4 => wpAny (model X.prog X.w) X.A (handleBy ev X.env [.ExceptHandler (some (.Name cn np)) (some n) (b₀ :: suite) hp]) (SP X pins D) X.xe s4) X.xe s3) X.xe s2 := by
 obtain ⟨x, C, a0, B, H2, dd, rfl, os, bare, U, hok, fl, c1, c2, nx, hxn, di, C', eC, hex, q2⟩ := hq
 cases eC
 have fl0 : Heap.FlyingW B (X.env :: X.outer) x (.ref C) a0 s2.heap := by rw [<- hst.1]; exact fl
 have hfr : X.A.frames = some (X.env :: X.outer) := by rw [<- hst.1]; exact I1.ok.frames
 have ff : ∀ b ∈ frs X.stack, ∃ o, s2.heap.get? b = some o /\ ∀ vs, o.data ≠ .fields vs := fun b hb => (fl.2.2.1.mem (b:=b) hb).2
 show wpAny _ _ (noteFrame (.ref x) X.env) _ _ s2
 refine zgc hfr hst.2.1 fl0 fun h3 held up3 dk3 => ?_
 refine zm6 (s:={ s2 with heap := h3 }) held fun h4 fl4 up4 dk4 => ?_
 have inv : ∀ {h' : Heap}, B.StaysIn h' -> s2.heap.UpToSlots h' -> Inv X pins σ H2 { s2 with heap := h' } := fun {h'} st up =>
  I1.call' (s':={ s2 with heap := h' }) (ch:=[]) os (U.fly fl.1 st c1 up ff) (hok.fly c2 fl.1 st) bare (fun b z => nomatch z)
 have I4 := inv fl4.1 (up3.trans up4)
 obtain ⟨ob4, hob4, hcl4⟩ := fl4.there
 refine wpAny_handleBy_cons (codeAny_handlers_test (zdl (X:=X.inSuite x) (I4.inSuite x) hgc hmc ?_ hdc)) (by intro q; cases q)
 have LT : Looks (model X.prog X.w) h4 (typeOf (.ref x)) (.ref C) := by rw [<- hcl4]; exact (Looks.ld hob4).andThen .now
 refine Looks.here (s:={ s2 with heap := h4 }) (exm_one (M:=model X.prog X.w) I4.kIn LT hex) ?_
 refine codeAny_handlers_suite_as ?_
 refine zew (s:={ s2 with heap := h4 }) fl4 fun h5 fl5 up5 dk5 => ?_
 have I5 := inv fl5.1 ((up3.trans up4).trans up5)
 have h0 : X.s₀.heap.get? x = none := by
  cases z : X.s₀.heap.get? x with
  | none => rfl
  | some o =>
   obtain ⟨o', e'⟩ := I1.base.there x o z (by rw [hst.2.2]; exact fun z => nomatch z)
   rw [nx] at e'; cases e'
 have I6 : Inv X pins σ (upd H2 x (zi3 x C dd)) { s2 with heap := h5 } := by
  refine I5.adoptX2 hxn h0 ?_ ?_ ?_ ?_
  ·obtain ⟨m, ⟨o, _, _, ho, _⟩, _⟩ := I1.loc
   exact fun z => by rw [z, ho] at nx; cases nx
  ·intro y c e z
   obtain ⟨v, o, ho, _⟩ := I1.cell y c e
   rw [z, nx] at ho; cases ho
  ·intro p' hp' z
   have := (I1.pin p' hp').1
   rw [z, nx] at this; cases this
  ·obtain ⟨_, _, _, o, vs5, _, _, _, ho, ⟨hc, _⟩, hd5, _⟩ := fl5
   obtain ⟨o', ho', hd', _⟩ := ((dk3.trans dk4).trans dk5).is di
   have ho : h5.get? x = some o := ho
   rw [ho] at ho'; cases ho'
   exact ⟨o, ho, hc, hd', by unfold notCls; rw [hd5]⟩
 refine zft (X:=X.inSuite x) (i:=i) (v:=.ref x) (I6.inSuite x) hN hi (.inl hx) rfl (fun s7 I7 => ?_) (.inr hx)
 refine wpAny_mono (hs x pins s7 (σ.set i (some (.ref x))) _ _ I7 (q2 x hxn)) (fun f' s8 h8 => ?_) fun _ _ z => z.elim
 cases f' with
 | next =>
  obtain ⟨σ8, H8, I8, v8, hv8, q8⟩ := h8
  have I8 := I8.outSuite I1.ok
  show wpAny _ _ (do bindName X.env n .none; unbindBehindTheSuite X.env n hp) _ _ s8
  refine wpAny_bind (wpAny_bindName (zft (i:=i) (v:=.non) I8 hN hi (.inl hx) rfl (fun s9 I9 => ?_) (.inr hx)))
  have hl8 : i < σ8.length := (List.getElem?_eq_some_iff.mp hv8).1
  unfold unbindBehindTheSuite
  refine wpAny_onRaise (zpo (i:=i) (v:=.non) I9 hN hi hx (List.getElem?_set_self hl8) fun s10 I10 => ?_)
  rw [List.set_set] at I10
  exact ⟨_, H8, I10, q8⟩
 | ret u => obtain ⟨_, _, _, _, _, z⟩ := h8; exact z.elim
 | brk => obtain ⟨_, _, _, z⟩ := h8; exact z.elim
 | cont => obtain ⟨_, _, _, z⟩ := h8; exact z.elim
theorem zpg {c : Bool} {k : Nat} {f CF : Addr} {fd : FuncData} {ps : List Str} {sp : Sp} {fn cn n : Str} {p pos ep np hp tp : Pos} {e : Expr} {es : List Expr} {ta : TA} {i : Nat} {b₀ : Stmt} {suite : List Stmt} {ts : TS}
  (F : FnOk X.prog X.w X.K X.mg X.base (CXB c X.prog X.w) k f fd ps sp) (hr : Room k X.A) (hg : Gl X fn) (hm : X.mg fn = some (.ref f)) (hk : PySem.W.keepIn X.K (.ref f) = true) (hb : zb0 X.K fd ps []) (ha : PA X.nox (e :: es) ta)
  (hgc : Gl X cn) (hmc : X.mg cn = some (.ref CF)) (hN : X.N.Nodup) (hi : X.N[i]? = some n) (hx : X.env.scope.names.lookup n = some .local) (hs : ∀ x, PSs (X.inSuite x) (b₀ :: suite) ts) (hst : X.stack = X.env :: X.outer /\ X.env.frame = some X.env.locals /\ X.ex = [])
  (hdb : (fn == ("__debug__" : Str)) = false := by decide) (hdc : (cn == ("__debug__" : Str)) = false := by decide) (he : starEach (e :: es) X.env = (false, eval e X.env) :: starEach es X.env := by rfl) (hpl : (backTo pos (starEach es X.env)).any (·.1) = false := by rfl)
  (hsw : swapsWith (.Call (.Name fn p) (e :: es) [] pos) none ep.line X.env = pure false := by rfl) :
  PS X (.Try [.Expr (.Call (.Name fn p) (e :: es) [] pos) ep] [.ExceptHandler (some (.Name cn np)) (some n) (b₀ :: suite) hp] [] [] tp) (zov X.K sp ta i CF ts) := by
 intro pins s σ H D I h
 have hil : i < σ.length := by rw [I.len]; exact (List.getElem?_eq_some_iff.mp hi).1
 refine wpAny_Try_except (wpAny_execs_cons (wpAny_Expr_any (wpAny_Call_Name_kw (zdl I hg hm ?_ hdb)) I.quiet hsw))
 refine PySem.W.callWith_K (h₀:=X.base) I.ok.mod.kin hk (wpAny_mono (ha pos pins s σ H _ (I.wish _) h) (fun us s1 ⟨vs, H1, I1, r, q⟩ => ⟨I1.unwish.kIn, ?_⟩) fun _ _ z => z.elim) he hpl
 have I1 := I1.unwish
 have hl : (us ++ []).length = ps.length := by rw [List.append_nil, <- r.length]; exact F.len _ _ _ _ q
 have hb' := hb s1 us I1.kIn hl
 rw [List.append_nil] at hb'
 refine wpAny_call (codeAny_mono (F.run X.A X.stack s1 H1 ⟨us, []⟩ us vs _ _ hr I1.env0 hb' r q) fun r s2 hq => ?_)
 cases r with
 | ok fl =>
  cases fl with
  | ret u =>
   obtain ⟨v, H2, I2, _, q2⟩ := I1.after hq
   exact wpAny_execs_nil (wpAny_execs_nil ⟨σ, H2, I2, q2⟩)
  | next => exact False.elim hq
  | brk => exact False.elim hq
  | cont => exact False.elim hq
 | error ev =>
  exact zsk I1 hgc hmc hN hi hx hs hst hq hdc
end
theorem xat2 {x C : Addr} {dd : Option Addr} {h : Heap} (p : ∃ o, h.get? x = some o /\ o.cls = .ref C /\ o.dict = dd /\ notCls o = true) : XAt x C h := let ⟨o, a, b, _⟩ := p; ⟨o, a, b⟩
noncomputable def zk5 (K : PySem.W.Frag) : List V -> Hp -> VK -> Prop := fun xs H Q => ∃ x C dd c b, H x = some (zi3 x C dd) /\ XTell K C /\ ((∃ D, xs = [.ref x, .ref D] /\ c = Value.ref D) \/ (∃ T, xs = [.ref x, .ty T] /\ c = Value.type T)) /\ kitOne K (.ref C) c = some b /\ Q (.bl b) H
section
open PySem.Calls Builtin Builtin.ObjectAttr
variable {X : Cx}
theorem zdq : zca X (.builtin "isinstance") (zk5 X.K) := by
 intro pins s σ H xs us Q I r h
 obtain ⟨x, C, dd, c, b, hx, T, hc, hk, q⟩ := h
 have hp : XAt x C s.heap := xat2 (I.hok x _ hx).1
 obtain ⟨u, v, rfl, hu, hv⟩ : ∃ u v, us = [u, v] /\ u = .ref x /\ v = c := by
  rcases hc with ⟨D, rfl, rfl⟩ | ⟨T', rfl, rfl⟩
  ·obtain ⟨u, v, rfl, ru, rv⟩ := zke r
   exact ⟨u, v, rfl, ru, rv⟩
  ·obtain ⟨u, v, rfl, ru, rv⟩ := zke r
   exact ⟨u, v, rfl, ru, rv⟩
 subst hu hv
 exact kia_one (zr2 T) I.kIn hp hk (by intro z; cases z) fun tk => ⟨.bl b, H, I.tok _, rfl, q⟩
theorem zu6 {prog : Program} {w : World} {A : Around} {E : Value -> Shared -> Prop} {s : Shared} {K : PySem.W.Frag} {x C dx : Addr} {mA : Str -> Option Value} {name : Str} {v : Value} {ex : Bool} {Q : Value -> Shared -> Prop} (X : K.In s.heap) (T : XTell K C) (ha : findIn K (.ref C) name = some none)
  (p : ∃ o, s.heap.get? x = some o /\ o.cls = .ref C /\ o.dict = some dx /\ notCls o = true) (n : s.heap.Ns1 dx mA) (hv : mA name = some v) (hv' : handedIn v = true) (q : Q v { s with toks := s.toks + 1 }) : wpAny (model prog w) A (getAttr (.ref x) name ex) Q E s := by
 obtain ⟨hh, g, d, t, os⟩ := s
 obtain ⟨od, hod, hl⟩ := zpp n
 obtain ⟨o, ho, hc, hd, hn⟩ := id p
 have J : InstAt hh x o C (some od) := ⟨ho, hc, hn, by rw [hd]; exact hod⟩
 have L0 := (xat2 p).ty (M:=model prog w); have L1 := looks_findIn (M:=model prog w) X T.ga; have L2 := looks_findIn (M:=model prog w) X T.gt
 have L3 := looks_find (M:=model prog w) X J (findObj_own T.dc ha rfl (by rw [hl, hv])); have L4 := looks_mroIn (M:=model prog w) X T.mb
 have hbd := F.attr_ValueError.ga.bind (.ref x)
 have hk : builtinKind "BaseException.__getattribute__" = some .slot := by decide +kernel
 have hs : splitId "BaseException.__getattribute__" = some ("BaseException", "__getattribute__") := by decide +kernel
 unfold getAttr getAttrBy; refine wpAny_bind (wpAny_mkText (wpAny_holding (wpAny_bind (L0.at (wpAny_bind (L1.at ?_))))))
 show wpAny _ _ (if (_ && _) then _ else _) _ _ _
 rw [if_neg (by rw [Bool.and_eq_true]; intro z; exact absurd z.2 (by decide +kernel))]
 unfold getAttrByItsOwn
 refine wpAny_bind ((show Looks _ _ (hookBefore (.ref C)) none from L2).at (wpAny_bind (wpAny_attempt (wpAny_holding ?_))))
 unfold callGetattribute boundAndCalled
 rw [if_neg (by intro z; rw [Bool.and_eq_true] at z; exact absurd z.2 (by decide +kernel)), hbd]
 refine wpAny_bind (wpAny_pure (wpAny_call ?_))
 refine codeAny_call_builtin F.attr_ValueError.ga.plain F.entry_bexc_ga ?_
 have hao := F.args_bexc_ga (.ref x) (.str name t)
 simp only [checkBuiltinCall, hk, hs]; unfold isInstance
 repeat lk
 exact handed_on hv' q
noncomputable def zq9 (K : PySem.W.Frag) (te : TE) (f : Str) : TE := fun σ H Q => te σ H fun v H1 => ∃ x C dx fs u, v = .ref x /\ H1 x = some (zi3 x C (some dx)) /\ H1 dx = some (.xd fs) /\ XTell K C /\ zrc K C f /\ fs.lookup f = some u /\ Q u H1
theorem zjp {e : Expr} {te : TE} {f : Str} {pos : Pos} (he : PE X e te) (hb : attributeBase e f X.env (eval e X.env) = eval e X.env) : PE X (.Attribute e f pos) (zq9 X.K te f) := by
 intro pins s σ H Q I h
 refine zwf hb (thn (he pins s σ H _ I h) fun u s1 hz9 => ?_)
 obtain ⟨v, H1, I1, rv, x, C, dx, fs, y, ev, hx, hd, T, n, l, q⟩ := hz9
 subst ev
 obtain rfl : u = Value.ref x := rv
 obtain ⟨mA, ns, r⟩ := I1.hok dx _ hd
 obtain ⟨z, hz, rz⟩ := RelO.some_of (v:=y) (o:=mA f) (by rw [<- l]; exact r f)
 exact zu6 I1.kIn T n (I1.hok x _ hx).1 ns hz (zo3 rz) ⟨y, H1, I1.tok _, rz, q⟩
end
end L2
namespace L2
open PySem PySem.W PyProof.Rows
noncomputable def zjm (C : Addr) (f : Str) : Sp := fun vs H Q _ => ∃ (e : Addr) (n : Int), vs = [.ref e, .int n] /\ 0 <= n /\ n < 1000000 /\ H e = some (ErrO e C none) /\ ∀ dx, H dx = none -> dx ≠ e -> Q .non (upd (upd H e (ErrO e C (some dx))) dx (.xd [(f, .int n)]))
theorem zku {K : PySem.W.Frag} {C fI : Addr} {f a b x y : Str} {vs : List V} {H : Hp} {Q : VK} {E : XK} (M : zi2 K C fI) (S : XStore K C f) (ha : (Str.empty ++ a).length <= 1000) (hb : b.length <= 1000) (h : zjm C f vs H Q E) :
  tSeq (zsb (zmt K (zbe (tVar 0) (zbe (tFsI a b (tVar 1)) tNil)))) (zrt K (tVar 0) (tVar 1) f) { nx := fun _ H' => Q .non H', rt := Q } (start [x, y] vs) H := by
 obtain ⟨e, n, rfl, hn0, hn, he, q⟩ := h
 have hl : ((toString n : String) : Str).length <= 6 := toString_length_le hn0 (by decide) (by lia)
 have app : ∀ u v : Str, (u ++ v).length = u.length + v.length := fun u v => Str.length_append u v
 refine ⟨.ref e, rfl, by rw [sizeLine_eq]; lia, .int n, rfl, n, rfl, ?_, by rw [app, sizeLine_eq]; lia, by rw [app, app, sizeLine_eq]; lia, e, C, none, _, rfl, he, ⟨fI, M⟩, .int n, rfl, .ref e, rfl, e, C, rfl, he, S, fun dx h1 h2 => q dx h1 h2⟩
 have h3 : n.natAbs < 2 ^ 1920 := Nat.lt_of_lt_of_le (show n.natAbs < 2 ^ 20 by lia) (Nat.pow_le_pow_right (by decide) (by decide))
 by_cases hz : n.natAbs = 0
 ·rw [hz]; decide
 ·exact (Nat.log2_lt hz).mpr h3
noncomputable def SpX (K : PySem.W.Frag) (C : Addr) (f : Str) (pre bad : List D -> Prop) (res err : List D -> D) : Sp := fun vs H Q E => ∃ G ds, Same G H /\ Reps K G ds vs /\ pre ds /\
 (¬ bad ds -> ∀ v G' H', Ext G H G' H' -> Rep K G' (res ds) v -> Q v H') /\ (bad ds -> ∀ dx v G' H', Ext G H G' H' -> G' dx = some (.xd [(f, v)]) -> Rep K G' (err ds) v -> E (.ref C) (some dx) H')
noncomputable def RtX2 (K : PySem.W.Frag) (G H₀ : Hp) (E : XK) (C : Addr) (f : Str) (d : D) : Prop := ∀ dx v F H', Ext G H₀ F H' -> F dx = some (.xd [(f, v)]) -> Rep K F d v -> E (.ref C) (some dx) H'
noncomputable def xsl2 (K : PySem.W.Frag) (x C dx : Addr) (f : Str) (d : D) : Sl := .g (.ref x) [] fun F _ => F x = some (zi3 x C (some dx)) /\ ∃ v, F dx = some (.xd [(f, v)]) /\ Rep K F d v
section
variable {K : PySem.W.Frag} {H : Hp} {vs : List V} {Q : VK} {E : XK} {N : List Str} {t : TS} {C : Addr} {f : Str} {pre bad : List D -> Prop} {res err : List D -> D}
theorem ze4 {n : Nat} (hpre : ∀ ds, pre ds -> ds.length = n) (h : SpX K C f pre bad res err vs H Q E) : vs.length = n := by
 obtain ⟨G, ds, sm, r, hp, q⟩ := h
 rw [<- r.length]; exact hpre ds hp
theorem zrv (h : SpX K C f pre bad res err vs H Q E) (hN : vs.length <= N.length) (body : ∀ G ds, pre ds -> (¬ bad ds -> RtD K G H Q (res ds)) -> (bad ds -> RtX2 K G H E C f (err ds)) -> Go K G H G { nx := fun _ H' => Q .non H', rt := Q } (slots N.length ds) t) :
  t { nx := fun _ H' => Q .non H', rt := Q } (start N vs) H := by
 obtain ⟨G, ds, sm, r, hp, q1, q2⟩ := h
 exact body G ds hp (fun nb v F H' e h4 => q1 nb v F H' e h4) (fun b dx v F H' e h1 h2 => q2 b dx v F H' e h1 h2) G H _ (zdt sm r hN)
end
theorem zqp (K : PySem.W.Frag) (x C dx : Addr) (f : Str) (d : D) : Stab [] fun F _ => F x = some (zi3 x C (some dx)) /\ ∃ v, F dx = some (.xd [(f, v)]) /\ Rep K F d v :=
 fun F1 H1 F2 H2 sf _ ⟨a, v, b, c⟩ => ⟨sf _ _ a, v, sf _ _ b, c.mono sf⟩
section
variable {K : PySem.W.Frag} {G H₀ L : Hp} {ss : List Sl} {ta tb te : TE} {t : TA} {ds : List D} {D0 : Ends} {E E' : XK} {C fI : Addr} {f : Str} {pre bad : List D -> Prop} {res err : List D -> D}
theorem zef {n : Int} (M : zi2 K C fI) (a : EvAF K G H₀ L ss t [.int n]) (hn0 : 0 <= n) (hn : n < 1000000) (h : RtX2 K G H₀ E C f (.int n)) : Go K G H₀ L D0 ss (zq6 K E H₀ (zis C (zjm C f) E' t)) := fun F H σ S =>
 a F H σ _ S fun vs F1 H1 e1 r1 => by
  rw [Reps] at r1
  obtain ⟨v1, r, rfl, rv1, r1⟩ := r1
  rw [Reps] at r1
  subst r1
  rw [rv1.of_int]
  intro e he
  refine ⟨e, n, rfl, hn0, hn, zal, fun dx hdx hne => ⟨rfl, e, C, some dx, rfl, ?_, ?_, ⟨fI, M⟩, ?_⟩⟩
  ·rw [zaj (Ne.symm hne), zal]
  ·exact (S.ext.trans e1).hh.free he
  ·have hd1 : H1 dx = none := by rw [zaj hne] at hdx; exact hdx
   have eH : del (upd (upd (upd H1 e (ErrO e C none)) e (ErrO e C (some dx))) dx (.xd [(f, .int n)])) e = upd H1 dx (.xd [(f, .int n)]) := by
    funext b
    by_cases hb : b = e
    ·rw [hb, zd1, zaj (Ne.symm hne), he]
    ·rw [zd6 hb]
     by_cases hc : b = dx
     ·rw [hc, zal, zal]
     ·rw [zaj hc, zaj hc, zaj hb, zaj hb]
   rw [eH]
   exact h dx (.int n) _ _ ((S.ext.trans e1).newF (o:=.xd [(f, .int n)]) hd1) zal Rep.int
theorem zga (a : EvAF K G H₀ L ss t ds) (hp : pre ds) (hb : ¬ bad ds) : Ev K G H₀ L ss (zil (SpX K C f pre bad res err) [] E t) (res ds) := fun F H σ Q S q =>
 a F H σ _ S fun vs F1 H1 e1 r1 => ⟨F1, ds, e1.fh, by rw [List.append_nil]; exact r1, hp, fun _ v G' H' e2 r => q _ _ _ (e1.trans e2) r, fun b => absurd b hb⟩
theorem znu (a : EvAF K G H₀ L ss t ds) (hp : pre ds) (hb : bad ds) (hx : RtX2 K G H₀ E C f (err ds)) : EvR K G H₀ L ss (zil (SpX K C f pre bad res err) [] E t) := fun F H σ Q S =>
 a F H σ _ S fun vs F1 H1 e1 r1 => ⟨F1, ds, e1.fh, by rw [List.append_nil]; exact r1, hp, fun nb => absurd hb nb, fun _ dx v G' H' e2 h1 h2 => hx dx v G' H' ((S.ext.trans e1).trans e2) h1 h2⟩
theorem zsu {i j : Nat} {CF : Addr} (a : EvAF K G H₀ L ss t ds) (hp : pre ds) (hb : bad ds) (hex : exmOne K (.ref C) (.ref CF) = some true) (hij : i ≠ j) (hil : i < ss.length) (hjl : j < ss.length)
  (h : ∀ x dx, Nx K G H₀ L D0.nx ((ss.set i .un).set j (xsl2 K x C dx f (err ds)))) : Go K G H₀ L D0 ss (zov K (SpX K C f pre bad res err) t i CF (tAsg (tVar i) (zjs j))) := fun F H σ S =>
 a F H σ _ S fun vs F1 H1 e1 r1 => by
  refine ⟨F1, ds, e1.fh, r1, hp, fun nb => absurd hb nb, fun _ dx v F2 H2 e2 hdx rv => ⟨C, rfl, hex, fun x hx => ?_⟩⟩
  have e3 := e1.trans e2
  have S2 := S.ext2 e3
  have hσ : i < σ.length := by rw [S.len]; exact hil
  refine ⟨.ref x, List.getElem?_set_self hσ, ?_⟩
  have g1 : ((σ.set i (some (V.ref x))).set j (some (V.ref x)))[i]? = some (some (V.ref x)) := by rw [List.getElem?_set_ne (Ne.symm hij)]; exact List.getElem?_set_self hσ
  refine ⟨.ref x, g1, ?_⟩
  have eσ : ((σ.set i (some (V.ref x))).set j (some (V.ref x))).set i none = (σ.set i none).set j (some (V.ref x)) := by
   rw [List.set_comm _ _ hij, List.set_set, List.set_comm _ _ (Ne.symm hij)]
   first | rfl | skip
  rw [eσ]
  have S3 : Sat K G H₀ L F2 H2 (σ.set i none) (ss.set i .un) := S2.put S2.ext S2.fl (by simp) (fun j hj => zdc (Ne.symm hj)) (fun _ => trivial) (by simp [Sl.ads]) (fun _ _ _ _ p hp => by simp [Sl.ads] at hp) fun j s' _ h => S2.ok j s' h
  have e := (Ext.refl S3.ext.fh).newF (o:=zi3 x C (some dx)) hx
  have S4 := S3.ext2 e
  have fx : F2 x = none := S3.ext.fh.free hx
  refine h x dx _ _ _ (S4.put S4.ext S4.fl (by simp) (fun k hk => zdc (Ne.symm hk)) (fun hk => ?_) (by simp [xsl2, Sl.ads]) (fun k s' hk hs q hq => by simp [xsl2, Sl.ads] at hq) fun k s' hk hs => S4.ok k s' hs)
  rw [zc8 (by rw [S3.len]; exact hk)]
  exact ⟨rfl, (fun a ha => absurd ha List.not_mem_nil), ⟨zal, v, by rw [zaj (zam hdx fx)]; exact hdx, rv.mono e.gf⟩, zqp K x C dx f _⟩
theorem zgr {j : Nat} {x dx : Addr} {d : D} {c : Value} {cv : V} {b : Bool} (hs : ss[j]? = some (xsl2 K x C dx f d)) (T : XTell K C) (hc : (∃ D, cv = .ref D /\ c = Value.ref D) \/ (∃ T, cv = .ty T /\ c = Value.type T)) (hk : kitOne K (.ref C) c = some b) :
  Ev K G H₀ L ss (tCB (zk5 K) (zbe (tVar j) (zbe (tC cv) tNil))) (.bl b) := fun F H σ Q S q => by
 obtain ⟨v, e, ew, ha, hw, st⟩ := S.get hs (by intro z; cases z)
 cases ew
 refine ⟨_, e, x, C, _, c, b, S.ext.fh _ _ hw.1, T, ?_, hk, q _ _ _ (Ext.refl S.ext.fh) Rep.bl⟩
 rcases hc with ⟨D, rfl, rfl⟩ | ⟨T', rfl, rfl⟩
 ·exact .inl ⟨D, rfl, rfl⟩
 ·exact .inr ⟨T', rfl, rfl⟩
theorem zki {j : Nat} {x dx : Addr} {d : D} (hs : ss[j]? = some (xsl2 K x C dx f d)) (T : XTell K C) (n : zrc K C f) : Ev K G H₀ L ss (zq9 K (tVar j) f) d := fun F H σ Q S q => by
 obtain ⟨v, e, ew, ha, ⟨hx, y, hd, ry⟩, st⟩ := S.get hs (by intro z; cases z)
 cases ew
 exact ⟨_, e, x, C, dx, [(f, y)], y, rfl, S.ext.fh _ _ hx, S.ext.fh _ _ hd, T, n, by simp [List.lookup], q _ _ _ (Ext.refl S.ext.fh) ry⟩
end
section
variable {P : Program} {w : World} {K : PySem.W.Frag} {mg : Str -> Option Value} {base : Heap}
theorem Fun.okX2 {c : Bool} {x qual : Str} {st : Stmt} {f : Addr} {fd : FuncData} {N ps : List Str} {k : Nat} {sp : Sp} (F : Fun K x qual st f fd) (S : FnScope N ps (zac st)) (len : ∀ vs H Q E, sp vs H Q E -> vs.length = ps.length)
  (hbody : ∀ (cdv : Value) (A : Around) (outer : List Env) (s : Shared) (H : Hp) (vs : List V) (Q : VK) (E : XK), Room k (A.deeper (envOfC qual (zac st) s.heap.objs.size f cdv)) -> sp vs H Q E ->
   ∃ t, PSs (cxOf (CXB c P w) P w K mg base N qual (zac st) f cdv A outer s H E) (zak st) t /\ t { nx := fun _ H' => Q .non H', rt := Q } (start N vs) H) : FnOk P w K mg base (CXB c P w) (k + 1) f fd ps sp := by
 obtain ⟨oc, od, kV, doc, pm, an, cdv, ct, osl, rfl, lk, hcd⟩ := F.ex
 exact zw5 lk hcd S len fun A outer s H vs Q E hr hsp => hbody cdv A outer s H vs Q E hr hsp
end
end L2
namespace L2
open PySem PySem.W PySem.Spec PyProof.Rows
end L2
namespace L2
open PySem PySem.W PySem.Spec PyProof.Rows
end L2
namespace L2
open PySem PySem.W PySem.Spec PyProof.Rows
end L2
namespace L2
open PySem PySem.Spec PyProof.Rows
structure RoomH (k : Nat) (A : Around) : Prop where
 dp : A.depth + 3 * k + 5 < recursionLimit
 un : A.units + 16 * k + 200 < cLine
 gd : A.guards = some []
theorem RoomH.mono {j k : Nat} {A : Around} (r : RoomH k A) (h : j <= k) : RoomH j A := ⟨by have := r.dp; omega, by have := r.un; omega, r.gd⟩
theorem RoomH.deeper {k : Nat} {A : Around} (r : RoomH (k + 1) A) (env : Env) : RoomH k (A.deeper env) :=
 ⟨by have := r.dp; show A.depth + 1 + 3 * k + 5 < _; omega, by have := r.un; show A.units + 3 + 16 * k + 200 < _; omega, r.gd⟩
theorem RoomH.make {k : Nat} {A : Around} (r : RoomH (k + 1) A) (C : Addr) (us : List Value) (kw : List (Str × Value)) : RoomH k (A.under (.builtin "type.__call__" ⟨.ref C :: us, kw⟩)) :=
 ⟨by have := r.dp; rw [zhp]; omega, by have := r.un; rw [zhl]; omega, r.gd⟩
theorem RoomH.depth {k : Nat} {A : Around} (r : RoomH k A) : A.depth < recursionLimit := by have := r.dp; omega
theorem Room.mark {k : Nat} {A : Around} (r : Room k A) (h : Option Value) : RoomH k (A.mark h) := ⟨r.dp, r.un, r.gd⟩
structure FnOkH (P : Program) (w : World) (K : PySem.W.Frag) (mg : Str -> Option Value) (base : Heap) (CX : CXT) (k : Nat) (f : Addr) (fd : FuncData) (ps : List Str) (sp : Sp) : Prop where
 len : ∀ vs H Q E, sp vs H Q E -> vs.length = ps.length
 run : ∀ (A : Around) (outer : List Env) (s : Shared) (H : Hp) (args : Args) (us : List Value) (vs : List V) (Q : VK) (E : XK), RoomH k A -> Env0 P w K mg base A outer s H -> BindsTo s fd args (ps.zip us) -> Vals vs us -> sp vs H Q E ->
  codeAny (model P w) A (.call (.ref f) args) (CR CX outer P w H s Q E) s
noncomputable def zn4 (CX : CXT) (P : Program) (w : World) (K : PySem.W.Frag) (mg : Str -> Option Value) (base : Heap) (N : List Str) (qual : Str) (scope : Scope) (f : Addr) (cd : Value) (A : Around) (outer : List Env) (s : Shared) (H : Hp) (E : XK) : Cx :=
 { cxOf CX P w K mg base N qual scope f cd A outer s H E with calm := false }
theorem zn7 {CX : CXT} {P : Program} {w : World} {K : PySem.W.Frag} {mg : Str -> Option Value} {base : Heap} {N ps : List Str} {qual : Str} {scope : Scope} {f : Addr} {cd : Value} {A : Around} {outer : List Env} {s s1 : Shared} {H : Hp} {E : XK} {us : List Value} {vs : List V}
  (S : FnScope N ps scope) (e0 : Env0 P w K mg base A outer s H) (hl : vs.length = ps.length) (r : Vals vs us)
  (x : InCallC s s.heap.objs.size (bindL (envOfC qual scope s.heap.objs.size f cd).kindOf (ps.zip us) fun _ => none) (cellsFrom (s.heap.objs.size + 1) scope.names []) (bindC (envOfC qual scope s.heap.objs.size f cd).kindOf (ps.zip us) fun _ => none) s1) :
  Inv (zn4 CX P w K mg base N qual scope f cd A outer s H E) [] (start N vs) H s1 := by
 have hpl : ps.length <= N.length := by have := congrArg List.length S.pre; rw [List.length_take] at this; omega
 obtain ⟨h1, tk, rfl, hk⟩ := x.done
 have noA : ∀ b : Addr, b ∉ (zn4 CX P w K mg base N qual scope f cd A outer s H E).ex := fun b z => absurd (show b ∈ ([] : List Addr) from z) (by simp)
 refine ⟨⟨e0.mod, S.kind, rfl, rfl, Nat.le_refl _, fun y z c h1 h2 => ?_, fun y hy => ?_, fun y c _ h => ?_, fun z => (by cases z), Around.frames_deeper e0.frames, .inr ⟨rfl, rfl⟩, fun b z => absurd z (noA b), e0.bs, e0.bsz, fun b _ _ => noA b, fun b z => absurd z (noA b), e0.funs, e0.frf⟩,
  rfl, e0.bare, Un.kept hk, ⟨_, x.toInCall.ns, fun i y v h1 h2 h3 => ?_⟩, fun y c h => ⟨_, x.cell y c h⟩, e0.hok.fresh (Nat.le_refl _), fun y c h => ?_, fun p hp => absurd (show p ∈ ([] : List (Addr × Obj)) from hp) (by simp), e0.hok.kept hk, ?_⟩
 ·exact name_of_addr x.apart (PySem.mem_of_lookup h1) (PySem.mem_of_lookup h2)
 ·have hy : scope.names.lookup y = some .cell \/ scope.names.lookup y = some .free := hy
  rcases hy with hy | hy
  ·exact zfs hy
  ·exact absurd rfl (S.nofree _ (PySem.mem_of_lookup hy))
 ·exact Nat.le_of_lt (x.above y c (PySem.mem_of_lookup h))
 ·have hi : i < vs.length := by
   unfold start at h2
   by_cases hi : i < vs.length
   ·exact hi
   ·rw [List.getElem?_append_right (by simpa using hi)] at h2
    rw [List.getElem?_replicate] at h2
    split at h2 <;> cases h2
  have ha : vs[i]? = some v := by
   unfold start at h2
   rw [List.getElem?_append_left (by simpa using hi), List.getElem?_map] at h2
   cases e : vs[i]? with
   | none => rw [e] at h2; cases h2
   | some a => rw [e] at h2; cases h2; rfl
  obtain ⟨u, hu, rv⟩ := r.get ha
  have hp : ps[i]? = some y := by
   rw [<- S.pre, List.getElem?_take_of_lt (by omega)]; exact h1
  have ndP : ps.Nodup := by rw [<- S.pre]; exact S.nd.sublist (List.take_sublist _ _)
  refine ⟨u, rv, ?_⟩
  rcases S.par y (List.mem_of_getElem? hp) with k | k
  ·exact .inl ⟨k, zf4 ndP hp hu k⟩
  ·obtain ⟨c, e⟩ := zfs (n:=s.heap.objs.size + 1) k
   refine .inr ⟨.inl k, c, e, ?_⟩
   have q := x.cell y c e
   rw [zge ndP hp hu (by show scope.names.lookup y ≠ _; rw [k]; decide)] at q
   exact q
 ·exact e0.hok.fresh (Nat.le_of_lt (x.above y c (PySem.mem_of_lookup h)))
 ·unfold start
  show _ = N.length
  rw [List.length_append, List.length_map, List.length_replicate]
  omega
theorem zw2 {CX : CXT} {P : Program} {w : World} {K : PySem.W.Frag} {mg : Str -> Option Value} {base : Heap} {k : Nat} {f : Addr} {name qual : Str} {params : Arguments} {body : List Stmt} {scope : Scope} {dV kV doc pm cdv ct oc : Value} {an od : Option Addr}
  {osl : Array (Option Value)} {N ps : List Str} {sp : Sp} (lk : K.lookup f = some ⟨oc, od, .func (PySem.W.fnOf name qual params body scope dV kV doc pm an cdv ct), osl⟩) (hcd : PySem.W.codeIn K cdv qual = true) (S : FnScope N ps scope)
  (len : ∀ vs H Q E, sp vs H Q E -> vs.length = ps.length)
  (hbody : ∀ (A : Around) (outer : List Env) (s : Shared) (H : Hp) (vs : List V) (Q : VK) (E : XK), RoomH k (A.deeper (envOfC qual scope s.heap.objs.size f cdv)) -> sp vs H Q E ->
   ∃ t, PSs (zn4 CX P w K mg base N qual scope f cdv A outer s H E) body t /\ t { nx := fun _ H' => Q .non H', rt := Q } (start N vs) H) :
  FnOkH P w K mg base CX (k + 1) f (PySem.W.fnOf name qual params body scope dV kV doc pm an cdv ct) ps sp := by
 refine ⟨len, fun A outer s H args us vs Q E hr e0 hb r hsp => ?_⟩
 have hl := len _ _ _ _ hsp
 have KX : K.In s.heap := e0.mod.kin.keeps fun b o e => (e0.bs b o e).1
 have lim : s.heap.NoLimit := e0.mod.nolimit.keeps fun b o e => (e0.bs b o e).1
 have hkind : ∀ y ∈ ps.zip us, scope.names.lookup y.1 = some .local \/ (scope.names.lookup y.1 = some .cell /\ ((cellsFrom (s.heap.objs.size + 1) scope.names []).lookup y.1).isSome = true) := fun ⟨n, v⟩ hy => by
  rcases S.par n (List.of_mem_zip hy).1 with q | q
  ·exact .inl q
  ·exact .inr ⟨q, PySem.W.cellsFrom_some _ _ _ (.inl q)⟩
 refine codeAny_call_function hr.depth (KX _ _ lk) rfl S.co S.gen rfl (PySem.W.codeRec_of KX hcd) (hb _ _ _ _ ?_)
 refine wpAny_newFunctionEnv_cells S.kind hkind fun env he s1 x => ?_
 subst he
 refine ⟨lim.keeps x.toInCall.keep, codeAny_func ?_⟩
 obtain ⟨t, ht, hq⟩ := hbody A outer s H vs Q E (hr.deeper _) hsp
 have I : Inv (zn4 CX P w K mg base N qual scope f cdv A outer s H E) [] (start N vs) H s1 := zn7 S e0 hl r x
 refine wpAny_mono (ht [] s1 (start N vs) H _ I hq) (fun fl s' hs => ?_) fun e s' hs => hs
 have fin : ∀ {σ' : St} {H' : Hp} {v : V} {u : Value}, Inv (zn4 CX P w K mg base N qual scope f cdv A outer s H E) [] σ' H' s' -> RelV v u -> Q v H' -> CE outer P w H s Q u s' :=
  fun {σ' H' v u} J rv q => ⟨v, H', J.os, J.bare, J.base, J.hok, rv, q⟩
 cases fl with
 | ret u =>
  obtain ⟨v, σ', H', J, rv, q⟩ := hs
  exact fin J rv q
 | next =>
  obtain ⟨σ', H', J, q⟩ := hs
  exact fin (v:=V.non) (u:=Value.none) J rfl q
 | brk =>
  obtain ⟨_, _, _, q⟩ := hs
  exact False.elim q
 | cont =>
  obtain ⟨_, _, _, q⟩ := hs
  exact False.elim q
theorem Fun.okH {P : Program} {w : World} {K : PySem.W.Frag} {mg : Str -> Option Value} {base : Heap} {x qual : Str} {st : Stmt} {f : Addr} {fd : FuncData} {N ps : List Str} {k : Nat} {sp : Sp} (F : Fun K x qual st f fd) (S : FnScope N ps (zac st)) (len : ∀ vs H Q E, sp vs H Q E -> vs.length = ps.length)
  (hbody : ∀ (cdv : Value) (A : Around) (outer : List Env) (s : Shared) (H : Hp) (vs : List V) (Q : VK) (E : XK), RoomH k (A.deeper (envOfC qual (zac st) s.heap.objs.size f cdv)) -> sp vs H Q E ->
   ∃ t, PSs (zn4 CX0 P w K mg base N qual (zac st) f cdv A outer s H E).nox (zak st) t /\ t { nx := fun _ H' => Q .non H', rt := Q } (start N vs) H) : FnOkH P w K mg base CX0 (k + 1) f fd ps sp := by
 obtain ⟨oc, od, kV, doc, pm, an, cdv, ct, osl, rfl, lk, hcd⟩ := F.ex
 refine zw2 lk hcd S len fun A outer s H vs Q E hr hsp => ?_
 obtain ⟨t, h, q⟩ := hbody cdv A outer s H vs Q E hr hsp
 exact ⟨t, h.nox, q⟩
end L2
namespace L2
open PySem PySem.W PySem.Spec PyProof.Rows
section
variable {prog : Program} {w : World} {A : Around} {E : Value -> Shared -> Prop} {env : Env} {s : Shared}
theorem ziz : entryFor table "proto.unchain" = some Builtin.«proto.unchain» := by kernel_rfl
theorem zj1 {e : Value} {h : Addr} {ox : Obj} {us : Array Value} {Q : Value -> Shared -> Prop} (hx : s.heap.get? h = some ox) (hd : ox.data = .fields us) (h2 : us[2]? = some .none) (q : Q .none s) :
  wpAny (model prog w) A (runValue (.builtin "proto.unchain" ⟨[e, .ref h, .ref h, .bool false], []⟩)) Q E s := by
 refine wpAny_runValue (codeAny_builtin ziz ?_)
 unfold Builtin.«proto.unchain»
 show wpAny _ _ (field (.ref h) 2 >>= _) _ _ _
 refine wpAny_bind (wpAny_field hx hd h2 ?_)
 rw [if_pos (by decide)]
 show wpAny _ _ (pure (Fin.done (Flow.ret Value.none))) _ _ _
 exact wpAny_pure q
theorem zia {α : Type} {e h : Addr} {oe ox : Obj} {vs us : Array Value} {Q : α -> Shared -> Prop} (hh : A.handled = some (.ref h)) (hne : h ≠ e) (he : s.heap.get? e = some oe) (hd : oe.data = .fields vs) (hs : 2 < vs.size)
  (hx : s.heap.get? h = some ox) (hdx : ox.data = .fields us) (h2 : us[2]? = some .none) (q : E (.ref e) { s with heap := s.heap.update e (Obj.mapFields (·.setIfInBounds 2 (.ref h))) }) : wpAny (model prog w) A (raiseNew (.ref e) : Sem α) Q E s := by
 unfold raiseNew
 refine wpAny_bind (wpAny_handled ?_)
 rw [hh]
 show wpAny _ _ (if (Value.ref h != Value.ref e) = true then (holding [Value.ref e] (runValue (.builtin "proto.unchain" ⟨[.ref e, .ref h, .ref h, .bool false], []⟩)) >>= fun _ => setField (.ref e) 2 (.ref h) >>= fun _ => throw (Value.ref e)) else throw (Value.ref e)) _ _ _
 rw [if_pos (by simpa using hne)]
 exact wpAny_bind (wpAny_holding (zj1 hx hdx h2 (wpAny_bind (wpAny_setField he hd hs (wpAny_throw q)))))
theorem znl {x c : Sem Value} {h : Addr} {Q : Flow -> Shared -> Prop} (hh : A.handled = some (.ref h)) (hc : ∀ (s' : Shared) (Q : Value -> Shared -> Prop), Q .none s' -> wpAny (model prog w) A c Q E s')
  (hx : wpAny (model prog w) A x (fun v s1 => ∃ e t de C bm ox us, v = .ref e /\ zmx s1.heap C bm /\ bm.contains (.type "BaseException") = true /\
   s1.heap.get? e = some { cls := .ref C, dict := de, data := .fields #[t, .none, .none, .none, .bool false, .none] } /\ s1.heap.get? h = some ox /\ ox.data = .fields us /\ us[2]? = some .none /\ h ≠ e /\ C ≠ e /\
   ∀ h', h'.get? e = some { cls := .ref C, dict := de, data := .fields #[t, .none, .ref h, .none, .bool true, .none] } -> (∀ b o, b ≠ e -> s1.heap.get? b = some o -> h'.get? b = some o) -> E (.ref e) { s1 with heap := h' }) E s) :
  wpAny (model prog w) A (raiseStmt env (some x) (some c)) Q E s := by
 unfold raiseStmt
 refine wpAny_bind (wpAny_mono hx (fun v s1 h1 => ?_) fun _ _ x => x)
 obtain ⟨e, t, de, C, bm, ox, us, rfl, ⟨_, _, _, _, _, _, _, _, _, _, _, _, _, _, _, _, hC⟩, hb, he, hox, hdx, h2, hne, hCe, hE⟩ := h1
 have hB : (Value.ref C :: bm).contains (.type "BaseException") = true := by rw [List.contains_cons, hb, Bool.or_true]
 refine wpAny_bind (wpAny_holding (hc _ _ (wpAny_bind (wpAny_pure ?_))))
 obtain ⟨hp, g, d, tk, os⟩ := s1
 repeat (first | with_reducible refine wpAny_loadPart_at he ?_ | with_reducible refine wpAny_loadPart_at hC ?_ | (with_reducible refine wpAny_isSubtype_exc hC ?_; rw [hB]) | wp_step)
 have he : hp.get? e = some { cls := .ref C, dict := de, data := .fields #[t, .none, .none, .none, .bool false, .none] } := he
 have up : ∀ (h0 : Heap) (o : Obj) (vs : Array Value) (k : Nat) (v : Value), h0.get? e = some o -> o.data = .fields vs -> (h0.update e (Obj.mapFields fun x => x.setIfInBounds k v)).get? e = some (Obj.mapFields (fun x => x.setIfInBounds k v) o) := fun h0 o vs k v ho hd => Heap.get?_update_self _ ho (Obj.isFreed_of_fields (Obj.data_mapFields hd _))
 have e1 : (hp.update e (Obj.mapFields fun x => x.setIfInBounds 3 Value.none)).get? e = some { cls := .ref C, dict := de, data := .fields #[t, .none, .none, .none, .bool false, .none] } := up hp _ _ 3 .none he rfl
 have e2 : ((hp.update e (Obj.mapFields fun x => x.setIfInBounds 3 Value.none)).update e (Obj.mapFields fun x => x.setIfInBounds 4 (Value.bool true))).get? e = some { cls := .ref C, dict := de, data := .fields #[t, .none, .none, .none, .bool true, .none] } := up _ _ _ 4 (.bool true) e1 rfl
 have oth : ∀ b, b ≠ e -> ((hp.update e (Obj.mapFields fun x => x.setIfInBounds 3 Value.none)).update e (Obj.mapFields fun x => x.setIfInBounds 4 (Value.bool true))).get? b = hp.get? b := fun b hb => (Heap.get?_update_other _ _ (Ne.symm hb)).trans (Heap.get?_update_other _ _ (Ne.symm hb))
 generalize (hp.update e (Obj.mapFields fun x => x.setIfInBounds 3 Value.none)).update e (Obj.mapFields fun x => x.setIfInBounds 4 (Value.bool true)) = h3 at e2 oth ⊢
 refine zia (s:=⟨h3, g, d, tk, os⟩) hh hne e2 rfl (by show 2 < 6; decide) ((oth h hne).trans hox) hdx h2 (hE _ (up h3 _ _ 2 (.ref h) e2 rfl) fun b o hb z => ?_)
 exact (Heap.get?_update_other _ _ (Ne.symm hb)).trans ((oth b hb).trans z)
end
noncomputable def zgn (K : PySem.W.Frag) (H₀ : Hp) (E : XK) (sp : Sp) (ta : TA) (CF : Addr) (te : TE) : TS := fun D σ H => ta σ H fun vs H1 => sp vs H1 D.rt (fun cls _ H2 => ∃ C, cls = .ref C /\ exmOne K (.ref C) (.ref CF) = some true /\
 te σ H2 fun v H3 => ∃ e C dd, v = .ref e /\ H3 e = some (ErrO e C dd) /\ H₀ e = none /\ (∃ fI, zi2 K C fI) /\ E (.ref C) dd (del H3 e))
section
variable {X : Cx} {CX : CXT} {k : Nat} {f C : Addr} {fd : FuncData} {ps : List Str} {sp : Sp} {E : XK} {x : Str} {p pos : Pos} {e : Expr} {es : List Expr} {t : TA}
theorem zom (M : XMk X.K C f) (F : FnOkH X.prog X.w X.K X.mg X.base CX k f fd ps sp) (hr : RoomH (k + 1) X.A) (hg : Gl X x) (hm : X.mg x = some (.ref C)) (hb : zb0 X.K fd ps []) (hx : zf6 CX X E)
  (ha : PA X (e :: es) t) (hsz : ps.length <= 100) (hdb : (x == ("__debug__" : Str)) = false := by decide) (he : starEach (e :: es) X.env = (false, eval e X.env) :: starEach es X.env := by rfl) (hpl : (backTo pos (starEach es X.env)).any (·.1) = false := by rfl) :
  PE X (.Call (.Name x p) (e :: es) [] pos) (zis C sp E t) := by
 intro pins s σ H Q I h
 refine wpAny_Call_Name_kw (zdl I hg hm ?_ hdb)
 refine PySem.W.callWith_K (h₀:=X.base) I.ok.mod.kin M.kp (thn (ha pos pins s σ H _ I h) fun us s1 ⟨vs, H1, I1, r, q⟩ => ⟨I1.kIn, ?_⟩) he hpl
 obtain ⟨tl, Na, nm, q', bs, hdct, sn, sub, ab, col, dc, k0, k1, k2, k3, k5, mN, hC, hN, hni, T⟩ := zeg I1.kIn M.cls
 obtain ⟨oI, hoI, hcI⟩ := Option.map_eq_some_iff.mp (beq_iff_eq.mp M.fn)
 obtain ⟨hh, g, d, tk, os⟩ := s1
 refine zhf PySem.F.excBase_ValueError (by decide) PySem.F.excBase_ValueError T hC hN hni (I1.kIn f oI hoI) hcI (fun h' e' hs hmd => ?_) ?_
 ·have I2 := Inv.errMade (s:=⟨hh, g, d, tk, os⟩) (C:=C) I1 hs hmd
  have hq := q e' (I1.hok.fresh hs)
  have r2 : Vals (V.ref e' :: vs) (Value.ref e' :: us) := .cons rfl r
  have hl : (Value.ref e' :: us ++ []).length = ps.length := by
   have z := r2.length
   rw [F.len _ _ _ _ hq] at z
   rw [List.append_nil]; exact z.symm
  have hb' := hb ⟨h', g, d, tk, os⟩ (Value.ref e' :: us) I2.kIn hl
  rw [List.append_nil] at hb'
  refine wpAny_call (codeAny_mono (F.run _ X.stack _ _ ⟨Value.ref e' :: us, []⟩ (Value.ref e' :: us) _ _ E (hr.make C us []) (I2.env0.make C us []) hb' r2 hq) fun r s' hq' => ?_)
  cases r with
  | error e => exact hx pins σ _ _ e s' I2 hq'
  | ok fl =>
   cases fl with
   | ret u =>
    obtain ⟨v, H', I3, rv, ev, q3⟩ := I2.after hq'
    subst ev
    exact ⟨rv, ⟨V.ref e', H', I3, rfl, q3⟩⟩
   | next => exact False.elim hq'
   | brk => exact False.elim hq'
   | cont => exact False.elim hq'
 ·have z := q hh.objs.size (I1.hok.fresh (Nat.le_refl _))
  have z2 := F.len _ _ _ _ z
  have z3 : vs.length + 1 = ps.length := z2
  have z4 := r.length
  rw [sizeLine_eq, List.nil_append]; lia
end
section
theorem zij {X : Cx} {H₀ : Hp} {E : XK} {k j : Nat} {f' CF : Addr} {fd : FuncData} {ps : List Str} {sp : Sp} {fn cn : Str} {p pos rpos np hp tp kp rp : Pos} {e xe : Expr} {es : List Expr} {ta : TA} {te : TE}
  (F : FnOk X.prog X.w X.K X.mg X.base (CXB true X.prog X.w) k f' fd ps sp) (hr : Room k X.A) (hg : Gl X fn) (hm : X.mg fn = some (.ref f')) (hk : PySem.W.keepIn X.K (.ref f') = true) (hb : zb0 X.K fd ps []) (ha : PA X.nox (e :: es) ta)
  (hgc : Gl X cn) (hmc : X.mg cn = some (.ref CF)) (hx : ∀ x, PE (X.inSuite x) xe te)
  (eF : X.env.frame = some X.env.locals) (eS : X.stack = X.env :: X.outer) (eX : X.ex = []) (hXe : ∀ x, PassesOwnAt (model X.prog X.w) (X.A.mark (some (.ref x))) X.A X.env X.xe)
  (fly : ∀ (pins : List (Addr × Obj)) (σ : St) (H2 : Hp) (s2 : Shared) (e C : Addr) (dd : Option Addr) (oe : Obj) (vs : Array Value) (φ : Heap -> Prop) (a0 : Value), Inv X pins σ H2 s2 -> H2 e = some (.ext φ) -> H₀ e = none -> s2.heap.get? e = some oe -> oe.cls = .ref C -> oe.dict = dd -> oe.data = .fields vs -> vs[1]? = some .none -> vs[0]? = some a0 -> E (.ref C) dd (del H2 e) -> X.xe (.ref e) s2)
  (hdb : (fn == ("__debug__" : Str)) = false) (hdc : (cn == ("__debug__" : Str)) = false) (he : starEach (e :: es) X.env = (false, eval e X.env) :: starEach es X.env) (hpl : (backTo pos (starEach es X.env)).any (·.1) = false) :
  PS X (.Try [.Return (some (.Call (.Name fn p) (e :: es) [] pos)) rpos] [.ExceptHandler (some (.Name cn np)) none [.Raise (some xe) (some (.Constant .none j kp)) rp] hp] [] [] tp) (zgn X.K H₀ E sp ta CF te) := by
 intro pins s1 σ H1 D I h
 refine wpAny_Try_except (wpAny_execs_cons (wpAny_Return_some (wpAny_Call_Name_kw (zdl I hg hm ?_ hdb))))
 refine PySem.W.callWith_K (h₀:=X.base) I.ok.mod.kin hk (wpAny_mono (ha pos pins s1 σ H1 _ (I.wish _) h) (fun us s1 ⟨vs, H1, I1, r, q⟩ => ⟨I1.unwish.kIn, ?_⟩) fun _ _ z => z.elim) he hpl
 have I1 := I1.unwish
 have hl : (us ++ []).length = ps.length := by rw [List.append_nil, <- r.length]; exact F.len _ _ _ _ q
 have hb' := hb s1 us I1.kIn hl
 rw [List.append_nil] at hb'
 refine wpAny_call (codeAny_mono (F.run X.A X.stack s1 H1 ⟨us, []⟩ us vs _ _ hr I1.env0 hb' r q) fun r s2 hq => ?_)
 cases r with
 | ok fl =>
  cases fl with
  | ret u =>
   obtain ⟨v, H2, I2, rv, q2⟩ := I1.after hq
   exact ⟨v, σ, H2, I2, rv, q2⟩
  | next => exact False.elim hq
  | brk => exact False.elim hq
  | cont => exact False.elim hq
 | error ev =>
  obtain ⟨x, C, a0, B, H2, dd, rfl, os, bare, U, hok, fl, c1, c2, nx, hxn, di, C', eC, hex, q2⟩ := hq
  cases eC
  have fl0 : Heap.FlyingW B (X.env :: X.outer) x (.ref C) a0 s2.heap := by rw [<- eS]; exact fl
  have hfr : X.A.frames = some (X.env :: X.outer) := by rw [<- eS]; exact I1.ok.frames
  have ff : ∀ b ∈ frs X.stack, ∃ o, s2.heap.get? b = some o /\ ∀ vs, o.data ≠ .fields vs := fun b hb => (fl.2.2.1.mem (b:=b) hb).2
  show wpAny _ _ (noteFrame (.ref x) X.env) _ _ s2
  refine zgc hfr eF fl0 fun h3 held up3 dk3 => ?_
  refine zm6 (s:={ s2 with heap := h3 }) held fun h4 fl4 up4 dk4 => ?_
  have inv : ∀ {h' : Heap}, B.StaysIn h' -> s2.heap.UpToSlots h' -> Inv X pins σ H2 { s2 with heap := h' } := fun {h'} st up =>
   I1.call' (s':={ s2 with heap := h' }) (ch:=[]) os (U.fly fl.1 st c1 up ff) (hok.fly c2 fl.1 st) bare (fun b z => nomatch z)
  have I4 := inv fl4.1 (up3.trans up4)
  obtain ⟨ob4, hob4, hcl4⟩ := fl4.there
  refine wpAny_handleBy_cons (codeAny_handlers_test (zdl (X:=X.inSuite x) (I4.inSuite x) hgc hmc ?_ hdc)) (by intro q; cases q)
  have LT : Looks (model X.prog X.w) h4 (typeOf (.ref x)) (.ref C) := by rw [<- hcl4]; exact (Looks.ld hob4).andThen .now
  refine Looks.here (s:={ s2 with heap := h4 }) (exm_one (M:=model X.prog X.w) I4.kIn LT hex) ?_
  refine codeAny_handlers_suite ?_
  refine zew (s:={ s2 with heap := h4 }) fl4 fun h5 fl5 up5 dk5 => ?_
  have I5 := inv fl5.1 ((up3.trans up4).trans up5)
  obtain ⟨_, _, _, o5, vs5, _, _, _, ho5, ⟨hc5, _⟩, hd5, _⟩ := fl5
  obtain ⟨o', ho', _, hf2⟩ := ((dk3.trans dk4).trans dk5).is di
  have ho5 : h5.get? x = some o5 := ho5
  rw [ho5] at ho'; cases ho'
  have h22 : vs5[2]? = some .none := by
   have := hf2 rfl
   unfold fld2 at this
   rw [hd5] at this; exact this
  have I6 : Inv X (pins ++ [(x, o5)]) σ H2 { s2 with heap := h5 } := I5.pins_of fun p hp => by
   rcases List.mem_append.mp hp with hp | hp
   ·exact I5.pin p (List.mem_append_right _ hp)
   ·rw [List.mem_singleton.mp hp]
    refine ⟨ho5, hxn, ?_, ?_, ?_⟩
    ·obtain ⟨m, ⟨o, _, _, ho, _⟩, _⟩ := I1.loc
     exact fun z => by
      have z : x = X.env.locals := z
      rw [z, ho] at nx; cases nx
    ·intro z
     obtain ⟨o, ho, _⟩ := (I1.funs.mem z).2
     have ho : s1.heap.get? x = some o := ho
     rw [nx] at ho; cases ho
    ·intro v z
     have z : o5.data = .cell v := z
     rw [hd5] at z; cases z
  refine wpAny_mono ?_ (fun _ _ z => z) fun ev sv hev => hXe x ev sv hev
  refine wpAny_execs_cons ?_
  rw [arm_exec_Raise]
  show wpAny _ _ (do standAt rp; raiseStmt X.env (some (do let v <- eval xe X.env; standAt rp; pure v)) (some (do let v <- eval (.Constant .none j kp) X.env; standAt rp; pure v))) _ _ _
  refine wpAny_bind (wpAny_standAt (znl (h:=x) rfl (fun s' Q q => ?_) ?_))
  ·refine wpAny_bind ?_
   show wpAny _ _ (pure Value.none) _ _ _
   exact wpAny_pure (wpAny_bind (wpAny_standAt (wpAny_pure q)))
  ·refine wpAny_bind (wpAny_mono (hx x _ { s2 with heap := h5 } σ H2 _ (I6.inSuite x) q2) (fun v s7 hz => wpAny_bind (wpAny_standAt (wpAny_pure ?_))) fun _ _ z => z.elim)
   obtain ⟨u, H7, I7, ru, e7, C7, dd7, eu, he7, hn7, ⟨fI, hx7⟩, q7⟩ := hz
   have I7 := I7.outSuite I1.ok
   subst eu
   obtain rfl : v = Value.ref e7 := ru
   obtain ⟨tl, Na, nm, q', bs, hdct, sn, sub, ab, col, dc, k0, k1, k2, k3, k5, mN, hC, hN, hni, T⟩ := zeg I7.kIn hx7
   obtain ⟨t0, ho⟩ : zoe e7 C7 dd7 s7.heap := (I7.hok e7 _ he7).1
   have hpin := I7.pin (x, o5) (List.mem_append_right _ (List.mem_append_right _ (List.mem_singleton.mpr rfl)))
   have hxe : x ≠ e7 := fun z => by
    have := hpin.2.1
    rw [show ((x, o5) : Addr × Obj).1 = e7 from z, he7] at this; cases this
   have hCe : C7 ≠ e7 := fun z => by rw [z, ho] at hC; cases hC
   refine ⟨e7, t0, dd7, C7, tl, o5, vs5, rfl, ⟨_, _, _, _, _, _, _, _, _, _, _, _, _, _, _, _, hC⟩, T.hasType PySem.F.excBase_ValueError.hasBase, ho, hpin.1, hd5, h22, hxe, hCe, fun h8 g8 k8 => ?_⟩
   have I8 := Inv.write (o:=.ext fun h => h.get? e7 = some { cls := .ref C7, dict := dd7, data := .fields #[t0, .none, .ref x, .none, .bool true, .none] }) (t':=s7.toks) I7 (by rw [he7]; trivial) (.inl rfl) k8 ⟨_, g8⟩ ⟨g8, ⟨_, g8⟩, fun h1 h2 z kk => kk _ z⟩
   have q8 : E (.ref C7) dd7 (del (upd H7 e7 (.ext fun h => h.get? e7 = some { cls := .ref C7, dict := dd7, data := .fields #[t0, .none, .ref x, .none, .bool true, .none] })) e7) := by
    have : del (upd H7 e7 (.ext fun h => h.get? e7 = some { cls := .ref C7, dict := dd7, data := .fields #[t0, .none, .ref x, .none, .bool true, .none] })) e7 = del H7 e7 := by
     funext b
     by_cases hb : b = e7
     ·subst hb; rw [zd1, zd1]
     ·rw [zd6 hb, zd6 hb, zaj hb]
    rw [this]; exact q7
   exact fly _ _ _ _ _ _ _ _ _ _ _ I8 zal hn7 g8 rfl rfl rfl rfl rfl q8
end
section
variable {P : Program} {w : World} {K : PySem.W.Frag} {mg : Str -> Option Value} {base : Heap} {N : List Str} {qual : Str} {scope : Scope} {f : Addr} {cd : Value} {A : Around} {outer : List Env} {s : Shared} {H : Hp} {E : XK}
theorem zlf {k j : Nat} {f' CF : Addr} {fd : FuncData} {ps : List Str} {sp : Sp} {fn cn : Str} {p pos rpos np hp tp kp rp : Pos} {e xe : Expr} {es : List Expr} {ta : TA} {te : TE}
  (F : FnOk P w K mg base (CXB true P w) k f' fd ps sp) (hr : Room k (cxOf (CXB false P w) P w K mg base N qual scope f cd A outer s H E).A) (hg : Gl (cxOf (CXB false P w) P w K mg base N qual scope f cd A outer s H E) fn) (hm : mg fn = some (.ref f')) (hk : PySem.W.keepIn K (.ref f') = true) (hb : zb0 K fd ps []) (ha : PA (cxOf (CXB false P w) P w K mg base N qual scope f cd A outer s H E).nox (e :: es) ta)
  (hgc : Gl (cxOf (CXB false P w) P w K mg base N qual scope f cd A outer s H E) cn) (hmc : mg cn = some (.ref CF)) (hx : ∀ x, PE ((cxOf (CXB false P w) P w K mg base N qual scope f cd A outer s H E).inSuite x) xe te)
  (hdb : (fn == ("__debug__" : Str)) = false := by decide) (hdc : (cn == ("__debug__" : Str)) = false := by decide) (he : starEach (e :: es) (cxOf (CXB false P w) P w K mg base N qual scope f cd A outer s H E).env = (false, eval e (cxOf (CXB false P w) P w K mg base N qual scope f cd A outer s H E).env) :: starEach es (cxOf (CXB false P w) P w K mg base N qual scope f cd A outer s H E).env := by rfl) (hpl : (backTo pos (starEach es (cxOf (CXB false P w) P w K mg base N qual scope f cd A outer s H E).env)).any (·.1) = false := by rfl) :
  PS (cxOf (CXB false P w) P w K mg base N qual scope f cd A outer s H E) (.Try [.Return (some (.Call (.Name fn p) (e :: es) [] pos)) rpos] [.ExceptHandler (some (.Name cn np)) none [.Raise (some xe) (some (.Constant .none j kp)) rp] hp] [] [] tp) (zgn K H E sp ta CF te) := by
 exact zij F hr hg hm hk hb ha hgc hmc hx rfl rfl rfl (fun _ => PassesOwnAt.leaving) (fun _ _ _ _ _ _ _ _ _ _ _ I8 h1 h2 h3 h4 h5 h6 h7 h8 q => zo6 I8 h1 h2 h3 h4 h5 h6 h7 h8 (fun z => by cases z) q) hdb hdc he hpl
end
end L2
namespace L2
open PySem PySem.W PySem.Spec PyProof.Rows
section
variable {P : Program} {w : World} {fs : List Addr} {H H' : Hp} {h h2 h3 B : Heap}
theorem Un.flyB (U : Un fs [] H H' h h2) (st2 : B.StaysIn h2) (st3 : B.StaysIn h3) (c1 : ∀ b o, h.get? b = some o -> b ∉ fs -> ∃ o', B.get? b = some o') (up : ∀ b ∈ fs, ∀ o, h2.get? b = some o -> (∀ vs, o.data ≠ .fields vs) -> ∃ sl, h3.get? b = some { o with slots := sl })
  (ff : ∀ b ∈ fs, ∃ o, h2.get? b = some o /\ ∀ vs, o.data ≠ .fields vs) : Un fs [] H H' h h3 where
 keep := fun b o e n hb hx => by
  obtain ⟨o', q⟩ := c1 b o e hb
  have q1 := U.keep b o e n hb hx
  have q2 := st2 b o' q
  rw [q1] at q2; cases q2
  exact st3 b _ q
 slot := fun b o e n hb hx => by
  obtain ⟨sl, q⟩ := U.slot b o e n hb hx
  obtain ⟨o2, q2, nf⟩ := ff b hb
  rw [q] at q2; cases q2
  obtain ⟨sl', q3⟩ := up b hb _ q nf
  exact ⟨sl', q3⟩
 free := U.free
 there := fun b o e hx => by
  by_cases hb : b ∈ fs
  ·obtain ⟨o2, q2, nf⟩ := ff b hb
   obtain ⟨sl, q3⟩ := up b hb _ q2 nf
   exact ⟨_, q3⟩
  ·obtain ⟨o', q⟩ := c1 b o e hb
   exact ⟨o', st3 b _ q⟩
 tups := U.tups
 frzs := U.frzs
 tbls := U.tbls
end
theorem zen {h h' base : Heap} {C : Addr} (k : ∀ b, b ≠ C -> h'.get? b = h.get? b) : ∀ {l : List Env}, h.FunFrames base l -> C ∉ frs l -> h'.FunFrames base l
 | [], hl, _ => hl
 | env :: rest, ⟨a, ⟨L, o, hf, hb, ho, hd⟩, hr⟩, hn => by
  have e : frs (env :: rest) = L :: frs rest := by unfold frs; rw [List.filterMap_cons, hf]
  rw [e] at hn
  refine ⟨a, ⟨L, o, hf, hb, ?_, hd⟩, zen k hr fun z => hn (List.mem_cons_of_mem _ z)⟩
  rw [k L fun z => hn (by rw [z]; exact List.mem_cons_self ..)]; exact ho
section
variable {M : Model} {A : Around} {E : Value -> Shared -> Prop} {s : Shared} {B : Heap} {env : Env} {outer : List Env} {L e : Addr} {C a0 fl : Value} {Q : Unit -> Shared -> Prop}
theorem zoh (q1 : A.frames = some (env :: outer)) (q3 : env.frame = some L) (st : B.StaysIn s.heap) (be : B.get? e = none) (ff : s.heap.FunFrames B (env :: outer)) (tr : s.heap.TracedAtW B e C a0 fl)
  (h : ∀ h', Heap.FlyingW B outer e C a0 h' -> s.heap.UpToSlots h' -> DK s.heap h' -> Q () { s with heap := h' }) : wpAny M A (leaving env (.ref e)) Q E s := by
 obtain ⟨oe, vs, T, oT, ts, he, ⟨hc, h0⟩, hd, h1, hnT, hTe, hT, hdT, h3⟩ := id tr
 show wpAny _ _ (noteFrame (.ref e) env >>= fun _ => setFlight (.ref e) none) _ _ _
 refine wpAny_bind ?_
 unfold noteFrame
 simp only [q3]
 refine wpAny_bind (wpAny_field he hd h1 ?_)
 rw [if_pos (by simp)]
 refine wpAny_bind (wpAny_field hT hdT h3 ?_)
 by_cases hf : fl = rawInt L
 ·subst hf
  rw [if_pos (by simp)]
  refine wpAny_pure ?_
  exact zm6 (l:=env :: outer) ⟨st, be, ff, tr⟩ fun h' f u k => h h' ⟨f.1, f.2.1, f.2.2.1.2.2, f.2.2.2⟩ u k
 ·rw [if_neg (by simpa using hf)]
  have k1 := zdm 3 Value.none hT hdT (by decide)
  refine wpAny_bind (wpAny_setField hT hdT (Array.getElem?_eq_some_iff.mp h3).1 ?_)
  have oth : ∀ b, b ≠ T -> (s.heap.update T (Obj.mapFields (·.setIfInBounds 3 Value.none))).get? b = s.heap.get? b := fun b hb => Heap.get?_update_other _ _ (Ne.symm hb)
  have nr : ∀ b o, s.heap.get? b = some o -> (∀ vs, o.data ≠ .fields vs) -> b ≠ T := fun b o hb nf q => by rw [q, hT] at hb; cases hb; exact nf ts hdT
  have ff' := ff.of_keeps (h':=s.heap.update T (Obj.mapFields (·.setIfInBounds 3 Value.none))) fun b o hb nf => ⟨o, (oth b (nr b o hb nf)).trans hb, rfl⟩
  have st' : B.StaysIn (s.heap.update T (Obj.mapFields (·.setIfInBounds 3 Value.none))) := fun b o hb => by
   rw [oth b fun z => by rw [z, hnT] at hb; cases hb]; exact st b o hb
  have he' := (oth e (Ne.symm hTe)).trans he
  have W := zch (wpAny_entryW (M:=M) (A:=A) (E:=E) (s:={ s with heap := s.heap.update T (Obj.mapFields (·.setIfInBounds 3 Value.none)) }) (head:=.ref T) (hadNext:=Value.ref T != Value.none) (Q:=fun _ s' => ∃ h', s' = { s with heap := h' } /\ Heap.NotedW B (env :: outer) e oe.cls a0 (rawInt L) (s.heap.update T (Obj.mapFields (·.setIfInBounds 3 Value.none))) h') q1 ff' q3 he' st' be hd (Array.getElem?_eq_some_iff.mp h1).1 h0 fun h' n => ⟨h', rfl, n⟩)
   (zi4 (M:=M) (A:=A) (E:=E) (s:={ s with heap := s.heap.update T (Obj.mapFields (·.setIfInBounds 3 Value.none)) }) (head:=.ref T) (hn:=Value.ref T != Value.none) q1 ff' q3 he' hd (Array.getElem?_eq_some_iff.mp h1).1)
  refine wpAny_mono W (fun _ s' z => ?_) fun _ _ z => z.1
  obtain ⟨⟨h', rfl, n1, n2, n3, n4⟩, k⟩ := z
  rw [hc] at n3
  refine zm6 (l:=env :: outer) (s:={ s with heap := h' }) ⟨n1, be, n2, n3⟩ fun h'' f u k2 => h h'' ⟨f.1, f.2.1, f.2.2.1.2.2, f.2.2.2⟩ (fun b o hb nf => ?_) ((k1.trans k).trans k2)
  obtain ⟨sl, z1⟩ := n4 b o ((oth b (nr b o hb nf)).trans hb) nf
  obtain ⟨sl2, z2⟩ := u b _ z1 nf
  exact ⟨sl2, z2⟩
end
noncomputable def OutC (cb : Bool) (X : Cx) (E : XK) : Prop := ∀ (pins : List (Addr × Obj)) (σ : St) (H : Hp) (s : Shared) (e : Value) (s' : Shared) (C : Addr) (m : Str -> Option Value), Inv X pins σ H s -> s.heap.Ns C m -> H C = none -> X.s₀.heap.objs.size <= C -> C ≠ X.env.locals -> C ∉ X.fs ->
 CXB cb X.prog X.w X.stack H s E e s' -> notedBy (model X.prog X.w) X.A X.env (fun x s'' => ∃ m, s''.heap.Ns C m /\ ∀ h', Heap.SameBut C s''.heap h' -> ∀ cenv : Env, cenv.locals = C -> wpAny (model X.prog X.w) X.A (PySem.passOn "comprehension.variables-let-go" x cenv : Sem Value) (fun _ _ => False) X.xe { s'' with heap := h' }) e s'
noncomputable def xeLC (cb : Bool) (X : Cx) (N' : List Str) (scope : Scope) (s : Shared) (H : Hp) (C : Addr) (fp : List Addr) (E : XK) : Value -> Shared -> Prop := fun e s' => ∃ pins2 σ2 H1 s1, Inv (lcCx X N' scope s H C fp) pins2 σ2 H1 s1 /\ CXB cb X.prog X.w X.stack H1 s1 E e s'
noncomputable abbrev lcE (cb : Bool) (X : Cx) (N' : List Str) (scope : Scope) (s : Shared) (H : Hp) (C : Addr) (fp : List Addr) (E : XK) : Cx := (lcCx X N' scope s H C fp).wish (xeLC cb X N' scope s H C fp E)
theorem zwr {cb : Bool} {X : Cx} {N' : List Str} {scope : Scope} {s : Shared} {H : Hp} {C : Addr} {fp : List Addr} {E : XK} : zf6 (CXB cb X.prog X.w) (lcE cb X N' scope s H C fp E) E := fun pins σ H s e s' I h => ⟨pins, σ, H, s, I.unwish, h⟩
section
variable {cb : Bool} {P : Program} {w : World} {K : PySem.W.Frag} {mg : Str -> Option Value} {base : Heap} {N : List Str} {qual : Str} {scope : Scope} {f : Addr} {cd : Value} {A : Around} {outer : List Env} {s : Shared} {H : Hp} {E : XK}
theorem outC : OutC cb (cxOf (CXB cb P w) P w K mg base N qual scope f cd A outer s H E) E := by
 intro pins σ H1 s1 e s2 C m I hm hCn hCs hCl hCf h
 obtain ⟨x, Cc, a0, B, H2, dd, rfl, os, bare, U, hok, fl, c1, c2, nx, hx, di, q⟩ := h
 have fl : Heap.FlyingW B (envOfC qual scope s.heap.objs.size f cd :: outer) x (.ref Cc) a0 s2.heap := fl
 have J := I.call' (ch:=[]) os U hok bare (fun b z => nomatch z)
 have thr : ∀ b o, s.heap.get? b = some o -> ∃ o1, s1.heap.get? b = some o1 := fun b o e => I.base.there b o e (fun z => nomatch z)
 have hCl : C ≠ s.heap.objs.size := hCl
 have hCf : C ∉ frs outer := hCf
 have hCs : s.heap.objs.size <= C := hCs
 have hCst : C ∉ frs (envOfC qual scope s.heap.objs.size f cd :: outer) := fun z => by
  have z : C ∈ s.heap.objs.size :: frs outer := z
  rcases List.mem_cons.mp z with z | z
  ·exact hCl z
  ·exact hCf z
 obtain ⟨oC, esC, epC, hoC, hrC⟩ := hm
 have hC0 : s.heap.get? C = none := by
  cases z : s.heap.get? C with
  | none => rfl
  | some o => exact absurd (Heap.lt_size z) (Nat.not_lt.mpr hCs)
 have hC2 : s2.heap.get? C = some oC := U.keep C oC hoC hCn hCst (fun z => nomatch z)
 obtain ⟨o', hB⟩ := c1 C oC hoC hCst
 have ho' := fl.1 C o' hB
 rw [hC2] at ho'; cases ho'
 have hxC : x ≠ C := fun z => by rw [z, hoC] at nx; cases nx
 show wpAny _ _ (noteFrame (.ref x) (envOfC qual scope s.heap.objs.size f cd)) _ _ s2
 refine zgc I.ok.frames rfl fl fun h3 held up3 dk3 => ?_
 refine ⟨m, ⟨oC, esC, epC, held.1 C _ hB, hrC⟩, fun h4 sb cenv hcl => ?_⟩
 -- the base without the block's names
 have bget : ∀ b o, B.get? b = some o -> b ≠ C -> (hideAll B [C]).get? b = some o := fun b o e hb => hideAll_get _ e (by simpa using hb)
 have bof : ∀ b o, (hideAll B [C]).get? b = some o -> B.get? b = some o /\ b ≠ C := fun b o e => ⟨of_hideAll _ e, fun z => by rw [z, hideAll_none _ (List.mem_singleton.mpr rfl)] at e; cases e⟩
 have bnone : ∀ b, B.get? b = none -> (hideAll B [C]).get? b = none := fun b e => by
  cases z : (hideAll B [C]).get? b with
  | none => rfl
  | some o => rw [(bof b o z).1] at e; cases e
 generalize hideAll B [C] = B' at bget bof bnone
 have st4 : B'.StaysIn h4 := fun b o e => by
  obtain ⟨e1, hb⟩ := bof b o e
  rw [sb.2 b hb]; exact held.1 b o e1
 have ff3 : h3.FunFrames B' (envOfC qual scope s.heap.objs.size f cd :: outer) := funFrames_base (fun b o e => (bof b o e).1) held.2.2.1
 have ff4 : h4.FunFrames B' (envOfC qual scope s.heap.objs.size f cd :: outer) := zen sb.2 ff3 hCst
 obtain ⟨oe, vs, T, oT, ts, he, hc, hd, h1, hnT, hTe, hT, hdT, ht3⟩ := held.2.2.2
 have hTC : T ≠ C := fun z => by rw [z, hB] at hnT; cases hnT
 have he4 : h4.get? x = some oe := (sb.2 x hxC).trans he
 have hT4 : h4.get? T = some oT := (sb.2 T hTC).trans hT
 unfold PySem.passOn
 refine wpAny_bind (wpAny_field (s:={ s2 with heap := h4 }) he4 hd h1 ?_)
 rw [if_neg (by simp)]
 unfold setFlight
 refine wpAny_bind (wpAny_bind (wpAny_field (s:={ s2 with heap := h4 }) he4 hd h1 ?_))
 rw [if_pos (by simp)]
 generalize hv : (cenv.frame.elim Value.none fun f => rawInt f) = v
 refine wpAny_setField (s:={ s2 with heap := h4 }) hT4 hdT (Array.getElem?_eq_some_iff.mp ht3).1 (wpAny_throw ?_)
 have oth : ∀ b, b ≠ T -> (h4.update T (Obj.mapFields (·.setIfInBounds 3 v))).get? b = h4.get? b := fun b hb => Heap.get?_update_other _ _ (Ne.symm hb)
 have nr : ∀ b o, h4.get? b = some o -> (∀ vs, o.data ≠ .fields vs) -> b ≠ T := fun b o hb nf q => by rw [q, hT4] at hb; cases hb; exact nf ts hdT
 have dk5 : DK h4 (h4.update T (Obj.mapFields (·.setIfInBounds 3 v))) := zdm 3 v hT4 hdT (by decide)
 have st5 : B'.StaysIn (h4.update T (Obj.mapFields (·.setIfInBounds 3 v))) := fun b o hb => by
  rw [oth b fun z => by rw [z, bnone T hnT] at hb; cases hb]; exact st4 b o hb
 have ff5 := ff4.of_keeps (h':=h4.update T (Obj.mapFields (·.setIfInBounds 3 v))) fun b o hb nf => ⟨o, (oth b (nr b o hb nf)).trans hb, rfl⟩
 have hT5 := Heap.get?_update_self (Obj.mapFields (·.setIfInBounds 3 v)) hT4 (Obj.isFreed_of_fields (Obj.data_mapFields hdT (·.setIfInBounds 3 v)))
 have tr5 : (h4.update T (Obj.mapFields (·.setIfInBounds 3 v))).TracedAtW B' x (.ref Cc) a0 v := ⟨oe, vs, T, _, _, (oth x (Ne.symm hTe)).trans he4, hc, hd, h1, bnone T hnT, hTe, hT5, Obj.data_mapFields hdT (·.setIfInBounds 3 v), by simp [Array.getElem?_setIfInBounds, (Array.getElem?_eq_some_iff.mp ht3).1]⟩
 have c3 : ∀ b o, s.heap.get? b = some o -> b ∉ frs outer -> ∃ o', B'.get? b = some o' := fun b o z hb => by
  obtain ⟨o1, e1⟩ := thr b o z
  have nf : b ∉ frs (envOfC qual scope s.heap.objs.size f cd :: outer) := fun k => by
   have k : b ∈ s.heap.objs.size :: frs outer := k
   rcases List.mem_cons.mp k with k | k
   ·exact absurd (Heap.lt_size z) (by rw [k]; exact Nat.lt_irrefl _)
   ·exact hb k
  obtain ⟨o2, e2⟩ := c1 b o1 e1 nf
  exact ⟨o2, bget b o2 e2 fun k => by rw [k, hC0] at z; cases z⟩
 have hH2C : H2 C = none := U.free C oC hoC hCn (fun z => nomatch z)
 have c4 : ∀ b u, H2 b = some u -> ∃ o', B'.get? b = some o' := fun b u z => by
  obtain ⟨o2, e2⟩ := c2 b u z
  exact ⟨o2, bget b o2 e2 fun k => by rw [k, hH2C] at z; cases z⟩
 have st2 : B'.StaysIn s2.heap := fun b o e => fl.1 b o (bof b o e).1
 refine zoh (s:={ s2 with heap := h4.update T (Obj.mapFields (·.setIfInBounds 3 v)) }) I.ok.frames rfl st5 (bnone x held.2.1) ff5 tr5 fun h6 fl6 up6 dk6 => ?_
 refine ⟨x, Cc, a0, B', H2, dd, rfl, os.trans I.os, bare, ?_, hok.fly c4 st2 fl6.1, fl6, c3, c4, ?_, hx, ?_, q⟩
 ·refine Un.flyB (B:=B') J.base st2 fl6.1 c3 (fun b hb o ho nf => ?_) fun b hb => (fl.2.2.1.mem (b:=b) (List.mem_cons_of_mem _ hb)).2
  obtain ⟨sl, e3⟩ := up3 b o ho nf
  have hbC : b ≠ C := fun z => hCf (z ▸ hb)
  have e4 : h4.get? b = some { o with slots := sl } := (sb.2 b hbC).trans e3
  obtain ⟨sl6, e6⟩ := up6 b _ ((oth b (nr b _ e4 nf)).trans e4) nf
  exact ⟨sl6, e6⟩
 ·cases z : s.heap.get? x with
  | none => rfl
  | some o =>
   obtain ⟨o1, e1⟩ := thr x o z
   have e1 : s1.heap.get? x = some o1 := e1
   rw [nx] at e1; cases e1
 ·obtain ⟨o3, e3, d3, r3⟩ := dk3.is di
  exact (dk5.trans dk6).is ⟨o3, (sb.2 x hxC).trans e3, d3, r3⟩
end
theorem ztg {prog : Program} {w : World} {A : Around} {R : Result -> Shared -> Prop} {s : Shared} {elt target iter : Expr} {ifs : List Expr} {scope : Scope} {pos : Pos} {it acc : Value} {env : Env} (I : Nat -> Shared -> Prop)
  (turn : ∀ n s, I n s -> wpAny (model prog w) A (pyNext it) (fun r s₁ => match r with
   | none => R (.ok .next) s₁
   | some v => wpAny (model prog w) A (letOwnedTupleGo target it v) (fun _ s₁' => wpAny (model prog w) A (assign target env v) (fun _ s₂ =>
     wpAny (model prog w) A (forIn ifs true fun c r => if r = true then do let ok <- isTrue c env (eval c env); pure (ForInStep.yield ok) else pure (ForInStep.yield r)) (fun ok s₃ =>
      if ok = true then wpAny (model prog w) A (eval elt env) (fun x s₄ =>
       wpAny (model prog w) A (call (.builtin "list.append") [acc, x]) (fun _ s₅ => ∃ m, m < n /\ I m s₅) (fun _ _ => False) s₄) (notedBy (model prog w) A env fun x s' => R (.error x) s') s₃
      else ∃ m, m < n /\ I m s₃) (fun _ _ => False) s₂) (fun _ _ => False) s₁') (fun _ _ => False) s₁) (fun _ _ => False) s)
  (n : Nat) (h : I n s) : codeAny (model prog w) A (.compLoop (.ListComp elt [⟨target, iter, ifs, 0⟩] scope pos) 0 it acc env) R s := by
 refine codeAny_loop rfl I (fun n s hI => ?_) n h
 show wpAny _ A ((compTurn (.ListComp elt [⟨target, iter, ifs, 0⟩] scope pos) 0 it acc env).onRaise (fun x => do noteFrame x env; theTreesLotGoes x)) _ _ s
 refine wpAny_noted ?_
 rw [compTurn_list]
 refine wpAny_bind (wpAny_standAt (wpAny_bind (wpAny_mono (turn n s hI) (fun r s₁ h₁ => ?_) fun _ _ h' => h'.elim)))
 cases r with
 | none => exact wpAny_pure h₁
 | some v =>
  refine wpAny_bind (wpAny_mono h₁ (fun _ s₁' h₁' => ?_) fun _ _ h' => h'.elim)
  refine wpAny_bind (wpAny_mono h₁' (fun _ s₂ h₂ => wpAny_bind (wpAny_mono h₂ (fun ok s₃ h₃ => ?_) fun _ _ h' => h'.elim)) fun _ _ h' => h'.elim)
  cases ok with
  | false => exact wpAny_pure ⟨rfl, h₃⟩
  | true =>
   exact wpAny_bind (wpAny_bind (wpAny_mono h₃ (fun x s₄ h₄ => wpAny_bind (wpAny_mono h₄ (fun _ s₅ h₅ => wpAny_pure (wpAny_pure ⟨rfl, h₅⟩)) fun _ _ h' => h'.elim)) fun _ _ h' => h'))
section
variable {cb : Bool} {E : XK} {X : Cx} {elt target iter : Expr} {ifs : List Expr} {scope : Scope} {pos : Pos} {N' : List Str} {nt : Nat} {cs : List Nat} {wi : TI} {g : TG} {tt : TT} {te : TE}
theorem zs8 {use : Option (Value -> Sem Unit)} {QQ : Value -> Shared -> Prop} {p2 : Pos} (hc : X.calm = true) (L : LcOk X scope N' nt cs) (hi : PI X target iter wi)
  (hg : ∀ s H C fp, PG (lcCx X N' scope s H C fp) target g) (ht : ∀ s H C fp, PIfs (lcCx X N' scope s H C fp) ifs tt) (he : ∀ s H C fp, PE (lcE cb X N' scope s H C fp E) elt te) (out : OutC cb X E)
  {pins : List (Addr × Obj)} {s : Shared} {σ : St} {H : Hp} {Q : VK} (I : Inv X pins σ H s) (h : tLC nt cs wi g tt te σ H Q)
  (fin : ∀ (l : Addr) (H' : Hp) (s' : Shared) (C : Addr), Inv X pins σ H' s' -> FpOk X pins H' C -> (∃ m, s'.heap.Ns C m) -> Q (.ref l) H' -> compPost (model X.prog X.w) X.A X.xe use QQ (.ref l) C (.ok .next) s')
  (hs : ∀ x, foldedSetIterable iter X.env x = pure x := by intro _; rfl) :
  wpAny (model X.prog X.w) X.A (comprehension (.ListComp elt [⟨target, iter, ifs, 0⟩] scope pos) scope X.env p2 (newList []) false (eval iter X.env) use) QQ X.xe s := by
 have hcl : closureFor scope X.env = pure (clos X.env.cells scope.names []) := zhi fun x hx => by
  obtain ⟨c, e⟩ := I.ok.has x (L.fr x hx)
  rw [e]; rfl
 refine wpAny_comprehension_free (env:=X.env) rfl hs hcl L.kind L.loc (thn (hi pins s σ H _ I h) fun v s1 h1 => thn h1 fun itv s2 h2 => ?_)
 obtain ⟨it, fp, tn, J, H1, e, I2, T, st2, f2, R⟩ := h2
 subst e
 refine wpAny_newObj_type ?_
 have hv : Vals [] ([] : List Value) := .nil
 have I3 := I2.lnew (t':=s2.toks) hv (Nat.zero_le _)
 have hfr : H1 s2.heap.objs.size = none := I2.fresh
 have ne3 : ∀ b ∈ fp, b ≠ s2.heap.objs.size := fun b hb z => by
  obtain ⟨o, e, _⟩ := T.obj _ _ st2 b hb
  have := Heap.lt_size e
  rw [z] at this
  exact Nat.lt_irrefl _ this
 have f3 : ∀ b ∈ fp, FpOk X pins (upd H1 s2.heap.objs.size (.lst [])) b := fun b hb => ⟨by rw [zaj (ne3 b hb)]; exact (f2 b hb).1, (f2 b hb).2⟩
 obtain ⟨W, ⟨m0, w0⟩, turn⟩ := R _ hfr
 refine wpAny_newFunctionEnv L.nocell (by intro y hy; simp at hy) (fun h4 hns hsb => ?_) L.kind
 dsimp only at hns hsb ⊢
 generalize hH3 : s2.heap.push { cls := .type "list", dict := none, data := .seq ([] : List Value).toArray } = h3 at hns hsb I3 ⊢
 have hsz3 : h3.objs.size = s2.heap.objs.size + 1 := by rw [<- hH3, Heap.size_push]
 have up4 : ∀ b u, h3.get? b = some u -> h4.get? b = some u := fun b u e => hsb.extBut b u (Nat.ne_of_lt (Heap.lt_size e)) (Heap.get?_push_of_some _ e)
 have fpo : ∀ b ∈ fp, b < h3.objs.size := fun b hb => by
  obtain ⟨o, e, _⟩ := T.obj _ _ st2 b hb
  exact Nat.lt_of_lt_of_le (Heap.lt_size e) (by rw [hsz3]; exact Nat.le_succ _)
 have up3 : ∀ b u, s2.heap.get? b = some u -> h3.get? b = some u := fun b u e => hH3 ▸ Heap.get?_push_of_some _ e
 have J4 : Inv (lcCx X N' scope { s2 with heap := h3 } (upd H1 s2.heap.objs.size (.lst [])) h3.objs.size fp) [] (lcS nt cs σ) (upd H1 s2.heap.objs.size (.lst [])) { s2 with heap := h4, toks := s2.toks + ([] : List (Str × Value)).length } :=
  zmb (t':=s2.toks + ([] : List (Str × Value)).length) I3 L f3 (Nat.le_refl _) up4 (by simpa using hns) fpo
 have st4 : tn 0 h4 := T.keep _ _ _ st2 fun b hb o e => up4 b o (up3 b o e)
 generalize hs3 : ({ s2 with heap := h3 } : Shared) = s3 at I3 J4
 generalize hX' : lcCx X N' scope s3 (upd H1 s2.heap.objs.size (.lst [])) h3.objs.size fp = X' at J4
 have hg' : PG X' target g := hX' ▸ hg _ _ _ _
 have ht' : PIfs X' ifs tt := hX' ▸ ht _ _ _ _
 have he' : PE (X'.wish (xeLC cb X N' scope s3 (upd H1 s2.heap.objs.size (.lst [])) h3.objs.size fp E)) elt te := hX' ▸ he _ _ _ _
 have stat : ∀ {H' : Hp}, (∀ b ∈ fp, H' b = none) -> ∀ b ∈ fp, FpOk X' [] H' b := fun hn b hb => by
  subst hX'
  refine ⟨hn b hb, Nat.ne_of_lt (fpo b hb), J4.ok.exfs b hb, .inl hb, (J4.ok.exf b hb).2, fun p hp => absurd (show p ∈ ([] : List (Addr × Obj)) from hp) (by simp)⟩
 have loop : codeAny (model X.prog X.w) X.A (.compLoop (.ListComp elt [⟨target, iter, ifs, 0⟩] scope pos) 0 (.ref it) (.ref s2.heap.objs.size) (compEnvC scope (clos X.env.cells scope.names []) h3.objs.size X.env))
   (compPost (model X.prog X.w) X.A X.xe use QQ (.ref s2.heap.objs.size) h3.objs.size) { s2 with heap := h4, toks := s2.toks + ([] : List (Str × Value)).length } := by
  have eA : X'.A = X.A := by subst hX'; rfl
  have eP : X'.prog = X.prog := by subst hX'; rfl
  have eW : X'.w = X.w := by subst hX'; rfl
  have eK : X'.K = X.K := by subst hX'; rfl
  have eC : X'.calm = true := by subst hX'; exact hc
  have eE : X'.env = compEnvC scope (clos X.env.cells scope.names []) h3.objs.size X.env := by subst hX'; rfl
  have eX : X'.xe = fun _ _ => False := by subst hX'; rfl
  refine ztg (fun n s' => ∃ i H', Inv X' [] (lcS nt cs σ) H' s' /\ tn i s'.heap /\ (∀ b ∈ fp, H' b = none) /\ W i n H') ?_ m0 ⟨0, _, J4, st4, fun b hb => (f3 b hb).1, w0⟩
  rintro n s5 ⟨i, H5, J5, st5, fr5, w5⟩
  rcases turn i n H5 w5 with ⟨stop, qn⟩ | ⟨go, N, hN, step⟩
  ·have d := T.done X' eP eW eK eC i [] s5 (lcS nt cs σ) H5 (fun _ _ => False) J5 (stat fr5) st5 stop
   rw [eA] at d
   refine thn d fun r s6 hz9 => ?_
   obtain ⟨hr, J6⟩ := hz9
   subst hr
   have I6 : Inv X pins σ H5 s6 := by subst hX'; subst hs3; exact zim I3 f3 J6
   refine fin _ H5 s6 h3.objs.size I6 ?_ ?_ qn
   ·have hn : H5 h3.objs.size = none := by subst hX'; exact J6.free
    subst hs3
    exact I3.fpOk (Nat.le_refl _) hn
   ·obtain ⟨m, hm, _⟩ := J6.loc
    subst hX'
    exact ⟨m, hm⟩
  ·have d := T.item X' eP eW eK eC i [] s5 (lcS nt cs σ) H5 (fun _ _ => False) J5 (stat fr5) st5 go
   rw [eA] at d
   refine thn d fun r s6 hz9 => ?_
   obtain ⟨u, hr, h6⟩ := hz9
   subst hr
   refine thn h6 fun _ s7 hz9 => ?_
   obtain ⟨x, H7, J7, r7, y7, st7, fr7⟩ := hz9
   have J7' := J7.pinned (stat fr7) (T.obj _ _ st7)
   have a := hg' _ s7 (lcS nt cs σ) H7 x u _ J7' r7 (step x H7 y7)
   rw [eA, eP, eW, eE, eX] at a
   refine thn a fun _ s8 ⟨σ8, H8, J8, ⟨e8, d8⟩, q8⟩ => ?_
   have b := ht' _ s8 σ8 H8 _ J8 q8
   rw [eA, eP, eW, eE, eX] at b
   have again : ∀ {s9 : Shared} {H9 : Hp}, Inv X' ([] ++ zhs fp s7.heap) σ8 H9 s9 -> N H9 -> ∃ m, m < n /\ ∃ i H', Inv X' [] (lcS nt cs σ) H' s9 /\ tn i s9.heap /\ (∀ b ∈ fp, H' b = none) /\ W i m H' := fun {s9 H9} J9 n9 => by
    obtain ⟨m', hm, w9⟩ := hN H9 n9
    refine ⟨m', hm, i + 1, H9, ?_, T.keep _ _ _ st7 fun b hb o e => (J9.pin (b, o) (List.mem_append_right _ (List.mem_append_right _ (zci hb e)))).1, fun b hb => ?_, w9⟩
    ·refine J9.unpinned.weak ?_ fun j v ej => ?_
     ·rw [e8]; unfold lcS; simp
     ·by_cases hj : j < nt
      ·unfold lcS at ej
       rw [List.getElem?_append_left (by simpa using hj), List.getElem?_replicate] at ej
       split at ej <;> cases ej
      ·have z := congrArg (fun l : St => l[j - nt]?) d8
       simp only [List.getElem?_drop] at z
       rw [show nt + (j - nt) = j by omega] at z
       rw [z]; exact ej
    ·obtain ⟨o, e, _⟩ := T.obj _ _ st7 b hb
     exact (J9.pin (b, o) (List.mem_append_right _ (List.mem_append_right _ (zci hb e)))).2.1
   refine thn b fun ok s9 hz9 => ?_
   obtain ⟨H9, J9, q9⟩ := hz9
   cases ok with
   | false =>
    rw [if_neg Bool.false_ne_true] at q9 ⊢
    exact again J9 q9
   | true =>
    rw [if_pos rfl] at q9 ⊢
    have ce := he' _ s9 σ8 H9 _ (J9.wish _) q9
    rw [show (X'.wish (xeLC cb X N' scope s3 (upd H1 s2.heap.objs.size (.lst [])) h3.objs.size fp E)).A = X'.A from rfl, show (X'.wish (xeLC cb X N' scope s3 (upd H1 s2.heap.objs.size (.lst [])) h3.objs.size fp E)).env = X'.env from rfl] at ce
    rw [eA, eE] at ce
    have eP2 : (X'.wish (xeLC cb X N' scope s3 (upd H1 s2.heap.objs.size (.lst [])) h3.objs.size fp E)).prog = X.prog := eP
    have eW2 : (X'.wish (xeLC cb X N' scope s3 (upd H1 s2.heap.objs.size (.lst [])) h3.objs.size fp E)).w = X.w := eW
    rw [eP2, eW2] at ce
    refine wpAny_mono ce (fun y sA ⟨vy, HA, JA, ry, xs, hl, hz, nA⟩ => ?_) fun ev sE hE => ?_
    rotate_left
    ·obtain ⟨pins2, σ2, HE, sE0, JE, hC⟩ := hE
     have JE := JE.pins_of (pins':=[]) fun p hp => by cases hp
     obtain ⟨mE, hmE, _⟩ := JE.loc
     have IE : Inv X pins σ HE sE0 := by subst hs3; exact zim I3 f3 JE
     have hCf : HE h3.objs.size = none := JE.free
     have sz3 : X.s₀.heap.objs.size <= h3.objs.size := by have := I3.sz; subst hs3; exact this
     have hne : h3.objs.size ≠ X.env.locals := by have := I3.lt; subst hs3; exact Nat.ne_of_gt this
     have hnf : h3.objs.size ∉ X.fs := by have := I3.nofs (a:=h3.objs.size); subst hs3; exact this (Nat.le_refl _)
     have o := out pins σ HE sE0 ev sE h3.objs.size mE IE hmE hCf sz3 hne hnf hC
     cases use <;> exact o
    have JA := JA.unwish
    have ap := zdv (X:=X') _ sA σ8 HA (.ref s2.heap.objs.size) [vy] (.ref s2.heap.objs.size) [y] (fun _ H' => N H') JA rfl (.cons ry .nil) ⟨_, xs, vy, rfl, rfl, hl, hz, nA⟩
    rw [eA, eP, eW, eX] at ap
    refine thn ap fun _ sB hz9 => ?_
    obtain ⟨_, HB, JB, _, nB⟩ := hz9
    exact again JB nB
 exact codeAny_compStart_list loop (T.self X.A 0 _ _ _ st4 loop)
theorem zxx (hc : X.calm = true) (L : LcOk X scope N' nt cs) (hi : PI X target iter wi)
  (hg : ∀ s H C fp, PG (lcCx X N' scope s H C fp) target g) (ht : ∀ s H C fp, PIfs (lcCx X N' scope s H C fp) ifs tt) (he : ∀ s H C fp, PE (lcE cb X N' scope s H C fp E) elt te) (out : OutC cb X E)
  (hs : ∀ x, foldedSetIterable iter X.env x = pure x := by intro _; rfl) : PE X (.ListComp elt [⟨target, iter, ifs, 0⟩] scope pos) (tLC nt cs wi g tt te) := by
 intro pins s σ H Q I h
 rw [eval_ListComp]
 refine zs8 (use:=none) hc L hi hg ht he out I h (fun l H' s' C I' f ⟨m, hm⟩ q => ⟨m, hm, fun h' hs' => ?_⟩) hs
 obtain ⟨f0, f1, f2, f3, f4, f5⟩ := f
 exact ⟨.ref l, H', I'.turned (t':=s'.toks) (fun b o hb e => hs'.extBut b o hb e) f0 f1 f3 f4 f5, rfl, q⟩
end
end L2
namespace L2
open PySem PySem.W PySem.Spec PyProof.Rows
section
variable {K : PySem.W.Frag} {G H₀ L : Hp} {ss : List Sl} {t t2 : TA} {ds : List D} {D0 : Ends} {E E' : XK} {C C' CF fI : Addr} {f f' : Str} {pre bad : List D -> Prop} {res err : List D -> D} {n : Int}
theorem zlq (a : EvAF K G H₀ L ss t ds) (hp : pre ds) (h1 : ¬ bad ds -> RtD K G H₀ D0.rt (res ds)) (hex : exmOne K (.ref C) (.ref CF) = some true) (M : zi2 K C' fI) (b : EvAF K G H₀ L ss t2 [.int n]) (hn0 : 0 <= n) (hn : n < 1000000) (h : bad ds -> RtX2 K G H₀ E C' f' (.int n)) :
  Go K G H₀ L D0 ss (zgn K H₀ E (SpX K C f pre bad res err) t CF (zis C' (zjm C' f') E' t2)) := fun F H σ S =>
 a F H σ _ S fun vs F1 H1 e1 r1 => ⟨F1, ds, e1.fh, r1, hp, fun nb v F2 H2 e2 rv => h1 nb _ _ _ ((S.ext.trans e1).trans e2) rv, fun hbad dx v F2 H2 e2 hdx rv => ⟨C, rfl, hex, zef (D0:=D0) (E':=E') M b hn0 hn (h hbad) F2 H2 σ (S.ext2 (e1.trans e2))⟩⟩
theorem zur {wi : TI} {g : TG} {te : TE} {nt : Nat} {cs : List Nat} {n k : Nat} {y : Nat -> D} (hkn : k < n) (fv : Nat -> D) (a : EvI K G H₀ L ss wi n y) (hk : GK nt g) (hc : cs.Nodup) (hz : n < sizeLine)
  (hs : ∀ i, i < k -> ∃ ss', Tg K G H₀ L g (y i) (lcSl nt cs ss) ss' /\ Ev K G H₀ L ss' te (fv i)) (hx : ∃ ss', Tg K G H₀ L g (y k) (lcSl nt cs ss) ss' /\ EvR K G H₀ L ss' te) :
  EvR K G H₀ L ss (tLC nt cs wi g zg0 te) := fun F H σ Q S =>
 a F H σ _ S fun F1 H1 J e1 it => by
  intro l hl
  have S1 := S.ext2 e1
  refine ⟨fun i m H2 => m = n - i /\ i <= k /\ ∃ F2 vs, Ext F1 H1 F2 H2 /\ F2 l = none /\ H2 l = some (.lst vs) /\ vs.length <= i,
   ⟨n, by omega, Nat.zero_le _, F1, [], (Ext.refl e1.fh).newO hl, e1.fh.free hl, zal, Nat.le_refl _⟩, ?_⟩
  rintro i m H2 ⟨rfl, hi, F2, vs, e2, fl, hl2, hvs⟩
  obtain ⟨it1, it2⟩ := it F2 H2 e2.gf e2.hh e2.fh
  obtain ⟨go, yl⟩ := it1 i (by omega)
  refine .inr ⟨go, fun H' => i < k /\ ∃ F2 vs, Ext F1 H1 F2 H' /\ F2 l = none /\ H' l = some (.lst vs) /\ vs.length <= i + 1, fun H' h => ⟨n - (i + 1), by omega, rfl, h.1, h.2⟩, fun x H3 yx => ?_⟩
  obtain ⟨F3, e3, rx⟩ := yl x H3 yx
  have S3 := ((S1.ext2 e2).ext2 e3).lc (nt:=nt) hc
  have hl3 : H3 l = some (.lst vs) := e3.hh l _ hl2
  have fl3 : F3 l = none := (e3.no l _ hl2).trans fl
  by_cases hik : i < k
  ·obtain ⟨ss', tg, ev⟩ := hs i hik
   have base := tg F3 H3 (lcS nt cs σ) x (fun σ2 H4 => H4 = H3 /\ Sat K G H₀ L F3 H3 σ2 ss') S3 rx fun σ' S' => ⟨rfl, S'⟩
   refine hk _ _ _ _ _ (fun σ2 H4 q l1 d1 => ⟨⟨by rw [l1]; simp [lcS], d1⟩, ?_⟩) base
   obtain ⟨rfl, S2⟩ := q
   unfold zg0
   refine iteT ?_
   refine ev _ _ σ2 _ S2 fun v F5 H5 e5 rv => ⟨vs, e5.hh l _ hl3, by omega, hik, F5, vs ++ [v], ?_, (e5.no l _ hl3).trans fl3, zal, by simp; omega⟩
   exact ((e2.trans e3).trans e5).write ((e5.no l _ hl3).trans fl3) hl
  ·have ei : i = k := by omega
   subst ei
   obtain ⟨ss', tg, ev⟩ := hx
   have base := tg F3 H3 (lcS nt cs σ) x (fun σ2 H4 => H4 = H3 /\ Sat K G H₀ L F3 H3 σ2 ss') S3 rx fun σ' S' => ⟨rfl, S'⟩
   refine hk _ _ _ _ _ (fun σ2 H4 q l1 d1 => ⟨⟨by rw [l1]; simp [lcS], d1⟩, ?_⟩) base
   obtain ⟨rfl, S2⟩ := q
   unfold zg0
   exact iteT (ev _ _ σ2 _ S2)
theorem zuv {α : Type} (xs : List α) (enc fv : α -> D) (k : Nat) (z : α) (hkz : xs[k]? = some z) {tl : TE} {g : TG} {te : TE} {nt : Nat} {cs : List Nat} (a : EvL K G H₀ L ss tl (xs.map enc)) (hk : GK nt g) (hc : cs.Nodup) (hz : xs.length < sizeLine)
  (hs : ∀ i x, i < k -> xs[i]? = some x -> ∃ ss', Tg K G H₀ L g (enc x) (lcSl nt cs ss) ss' /\ Ev K G H₀ L ss' te (fv x)) (hx : ∃ ss', Tg K G H₀ L g (enc z) (lcSl nt cs ss) ss' /\ EvR K G H₀ L ss' te) :
  EvR K G H₀ L ss (tLC nt cs (znk K tl) g zg0 te) := by
 have hkl : k < xs.length := (List.getElem?_eq_some_iff.mp hkz).1
 have eg : ∀ i x, xs[i]? = some x -> (xs.map enc).getD i .non = enc x := fun i x e => by
  rw [List.getD_eq_getElem?_getD, List.getElem?_map, e]; rfl
 refine zur (n:=(xs.map enc).length) (k:=k) (by rw [List.length_map]; exact hkl) (fun i => fv (xs.getD i z)) (zi9 a) hk hc (by rw [List.length_map]; exact hz) (fun i hi => ?_) (by rw [eg k z hkz]; exact hx)
 have hil : i < xs.length := by omega
 have e := List.getElem?_eq_getElem hil
 rw [eg i _ e, List.getD_eq_getElem?_getD, e]
 exact hs i _ hi e
end
end L2
namespace L2
open PySem PySem.W PySem.Spec PyProof.Rows
end L2
namespace L2
open PySem PySem.W PySem.Spec PyProof.Rows
noncomputable def zo0 : V -> List V -> Hp -> VK -> Prop := fun x vs H Q => ∃ (l : Addr) (xs : List V) (i : Nat) (y : V), x = .ref l /\ vs = [.int (i : Int), y] /\ H l = some (.lst xs) /\ i <= xs.length /\ xs.length < sizeLine /\ Q .non (upd H l (.lst (xs.take i ++ y :: xs.drop i)))
section
variable {X : Cx}
theorem Vals.cut {xs : List V} {us : List Value} (r : Vals xs us) (i : Nat) : Vals (xs.take i) (us.take i) /\ Vals (xs.drop i) (us.drop i) := by
 induction r generalizing i with
 | nil => simp only [List.take_nil, List.drop_nil]; exact ⟨.nil, .nil⟩
 | cons a b ih =>
  cases i with
  | zero => exact ⟨.nil, .cons a b⟩
  | succ i => exact ⟨.cons a (ih i).1, (ih i).2⟩
theorem zkv : MtM X "list.insert" zo0 := by
 intro pins s σ H x vs v us Q I rx rv h
 obtain ⟨l, xs, i, y, rfl, rfl, hH, hi, hz, q⟩ := h
 cases rx
 obtain ⟨u, w, rfl, ru, rw'⟩ := rv.two
 obtain ⟨tk, rfl⟩ := ru
 obtain ⟨z, its, n, r, hl, e⟩ := I.lstM hH
 obtain ⟨x, hx⟩ : ∃ x : Int, x = (i : Int) := ⟨_, rfl⟩
 rw [<- hx]
 have hfit : ¬ (!Builtin.List.listFitsIndex x) = true := by
  have h1 : x <= 16777216 := by rw [sizeLine_eq] at hz; omega
  have h2 : -(2 ^ 63 : Int) <= x := Int.le_trans (by decide) (show (0 : Int) <= x by omega)
  have h3 : x < 2 ^ 63 := Int.lt_of_le_of_lt h1 (by decide)
  unfold Builtin.List.listFitsIndex
  rw [decide_eq_true h2, decide_eq_true h3]; decide
 have hsz : its.toArray.size <= sizeLine := by rw [List.size_toArray]; omega
 refine call_meets PySem.F.slot_list_insert ⟨_, e, rfl⟩ PySem.F.entry_list_insert (PySem.F.args_list_insert_3 _ _ _) (PySem.AutoSeq1.list_insert_list_int_val_1 l its.toArray n x tk w hfit hsz) ⟨e, ?_⟩
 have rc := r.cut i
 refine ⟨.non, _, I.lset (its':=its.take i ++ w :: its.drop i) hH e ?_ (rc.1.append (.cons rw' rc.2)) ?_, rfl, q⟩
 ·show ((its.toArray.extract 0 (if x < 0 then (x + (its.toArray.size : Int)).toNat else min x.toNat its.toArray.size)).push w ++ its.toArray.extract (if x < 0 then (x + (its.toArray.size : Int)).toNat else min x.toNat its.toArray.size)) = _
  rw [if_neg (by omega), hx, Int.toNat_natCast, List.size_toArray, Nat.min_eq_left (by omega)]
  apply Array.ext'
  simp
  exact List.take_of_length_le (by simp)
 ·simp; omega
end
section
variable {K : PySem.W.Frag} {G H₀ L : Hp} {ss : List Sl} {ds : List D} {d : D} {E : Ends} {ti t1 : TE}
theorem zjj {j i : Nat} {p : Addr} (hs : ss[j]? = some (.o p ds)) (b : Ev K G H₀ L ss ti (.int (i : Int))) (a : Ev K G H₀ L ss t1 d) (hi : i <= ds.length) (hz : ds.length < sizeLine) (h : Nx K G H₀ L E.nx (ss.set j (.o p (ds.take i ++ d :: ds.drop i)))) :
  Go K G H₀ L E ss (zsb (tBM K "list" zo0 (tVar j) (zbe ti (zbe t1 tNil)))) := fun F H σ S => by
 obtain ⟨e, h0, fp, vs, hp, r⟩ := S.getO hs
 refine ⟨.ref p, e, .inl ⟨rfl, _, SqL.of hp⟩, b F H σ _ S fun vi F1 H1 e1 ri => a F1 H1 σ _ (S.ext2 e1) fun v F2 H2 e2 rv => ?_⟩
 have S2 := S.ext2 (e1.trans e2)
 obtain ⟨_, _, _, ws, hp2, r2⟩ := S2.getO hs
 have hlen := r2.length
 exact ⟨p, ws, i, v, rfl, by rw [ri.of_int], hp2, by omega, by omega, h F2 _ σ (S2.write hs ((r2.take i).append (Reps.cons rv (r2.drop i))))⟩
end
end L2
namespace L2
open PySem PySem.W PySem.Spec PyProof.Rows
@[irreducible] noncomputable def IE (X : Cx) (e : Expr) (t : TE) : Prop := PE X e t
end L2
set_option maxHeartbeats 8000000
namespace My
open PySem L2 PyProof.Rows
noncomputable def top (i : Nat) : Stmt := PySem.Challenge.pw_folk_k12_texts_of_books_refused.main.body.getD i (.Pass ⟨0, 0, 0, 0⟩)
noncomputable def zyl (i j : Nat) : Stmt := match top i with
 | .ClassDef _ _ _ b _ _ _ _ _ _ _ => b.getD j (.Pass ⟨0, 0, 0, 0⟩)
 | s => s
noncomputable abbrev za7 : Stmt := zyl 2 0
theorem zeh : FnScope ["self", "row"] ["self", "row"] (zac za7) := ⟨rfl, rfl, rfl, by decide +kernel, rfl, by decide +kernel, by decide +kernel⟩
noncomputable abbrev zbr : Stmt := top 13
theorem znj : FnScope ["text"] ["text"] (zac zbr) := ⟨rfl, rfl, rfl, by decide +kernel, rfl, by decide +kernel, by decide +kernel⟩
noncomputable abbrev zbz : Stmt := top 14
theorem zoo : FnScope ["sign"] ["sign"] (zac zbz) := ⟨rfl, rfl, rfl, by decide +kernel, rfl, by decide +kernel, by decide +kernel⟩
noncomputable abbrev zbs : Stmt := top 15
theorem zob : FnScope ["text"] ["text"] (zac zbs) := ⟨rfl, rfl, rfl, by decide +kernel, rfl, by decide +kernel, by decide +kernel⟩
noncomputable abbrev zbg : Stmt := top 16
theorem zkj : FnScope ["one", "field", "other"] ["one", "field", "other"] (zac zbg) := ⟨rfl, rfl, rfl, by decide +kernel, rfl, by decide +kernel, by decide +kernel⟩
noncomputable abbrev zes : Stmt := top 17
theorem zve : FnScope ["facts"] ["facts"] (zac zes) := ⟨rfl, rfl, rfl, by decide +kernel, rfl, by decide +kernel, by decide +kernel⟩
noncomputable abbrev zaw : Stmt := top 19
theorem zgk : FnScope ["row"] ["row"] (zac zaw) := ⟨rfl, rfl, rfl, by decide +kernel, rfl, by decide +kernel, by decide +kernel⟩
noncomputable abbrev zbc : Stmt := top 20
theorem zfa : FnScope ["text", "rows"] ["text"] (zac zbc) := ⟨rfl, rfl, rfl, by decide +kernel, rfl, by decide +kernel, by decide +kernel⟩
noncomputable abbrev zby : Stmt := top 21
theorem zhv : FnScope ["row", "words"] ["row"] (zac zby) := ⟨rfl, rfl, rfl, by decide +kernel, rfl, by decide +kernel, by decide +kernel⟩
noncomputable abbrev zas : Stmt := top 22
theorem zfq : FnScope ["number", "row"] ["number", "row"] (zac zas) := ⟨rfl, rfl, rfl, by decide +kernel, rfl, by decide +kernel, by decide +kernel⟩
noncomputable abbrev zbb : Stmt := top 23
theorem zkf : FnScope ["text"] ["text"] (zac zbb) := ⟨rfl, rfl, rfl, by decide +kernel, rfl, by decide +kernel, by decide +kernel⟩
noncomputable abbrev za0 : Stmt := top 25
theorem zg8 : FnScope ["_law_script", "_law_k"] ["_law_script", "_law_k"] (zac za0) := ⟨rfl, rfl, rfl, by decide +kernel, rfl, by decide +kernel, by decide +kernel⟩
noncomputable abbrev zbf : Stmt := top 26
theorem zjq : FnScope ["_law_found"] ["_law_found"] (zac zbf) := ⟨rfl, rfl, rfl, by decide +kernel, rfl, by decide +kernel, by decide +kernel⟩
noncomputable abbrev za6 : Stmt := top 27
theorem zbx : FnScope ["_law_cell", "_law_many", "_law_found", "_law_number", "_law_k"] ["_law_cell", "_law_many"] (zac za6) := ⟨rfl, rfl, rfl, by decide +kernel, rfl, by decide +kernel, by decide +kernel⟩
noncomputable abbrev zbv : Stmt := top 28
theorem zbt : FnScope ["_law_cell", "_law_letters", "_law_draws", "_law_card", "_law_other", "_law_field", "_law_text"] ["_law_cell"] (zac zbv) := ⟨rfl, rfl, rfl, by decide +kernel, rfl, by decide +kernel, by decide +kernel⟩
noncomputable abbrev zbw : Stmt := top 29
theorem ze1 : FnScope ["_law_draw", "_law_some"] ["_law_draw"] (zac zbw) := ⟨rfl, rfl, rfl, by decide +kernel, rfl, by decide +kernel, by decide +kernel⟩
noncomputable abbrev za2 : Stmt := top 30
theorem zb7 : FnScope ["_law_text", "_law_number", "_law_caught", "e"] ["_law_text", "_law_number"] (zac za2) := ⟨rfl, rfl, rfl, by decide +kernel, rfl, by decide +kernel, by decide +kernel⟩
noncomputable abbrev zio : Stmt := top 31
theorem zd5 : FnScope ["_law_script", "_law_rows", "_law_facts", "_law_cell", "_law_row_here", "_law_fact", "_law_draws", "_law_more", "_law_bad_here", "_law_at"] ["_law_script"] (zac zio) := ⟨rfl, rfl, rfl, by decide +kernel, rfl, by decide +kernel, by decide +kernel⟩
set_option genInjectivity false in
set_option genSizeOf false in
structure Ad where
 (c_FolkError c_NoName c_NoPair c_NoRow c_NoText k_FIELDS k_PAIR_FIELDS f_NoRow_init f_is_name f_is_sign f_is_text f_pair_fact f_tidy f_is_passed_by f_told_rows f_fact_of f_numbered_fact f_read_book f_law_cell_at f_law_whole f_law_stream f_law_row f_law_bad f_law_refused f_law : Addr)
 (u_LETTERS u_LONGEST_NAME u_LONGEST_TEXT u_NO_SIGN : Value)
 (d_NoRow_init d_is_name d_is_sign d_is_text d_pair_fact d_tidy d_is_passed_by d_told_rows d_fact_of d_numbered_fact d_read_book d_law_cell_at d_law_whole d_law_stream d_law_row d_law_bad d_law_refused d_law : FuncData)
structure Tx (K : PySem.W.Frag) (mg : Str -> Option Value) (ad0 : Ad) : Prop where
 M_FolkError : mg "FolkError" = some (.ref ad0.c_FolkError)
 M_NoName : mg "NoName" = some (.ref ad0.c_NoName)
 M_NoPair : mg "NoPair" = some (.ref ad0.c_NoPair)
 M_NoRow : mg "NoRow" = some (.ref ad0.c_NoRow)
 M_NoText : mg "NoText" = some (.ref ad0.c_NoText)
 XM_NoRow : XMk K ad0.c_NoRow ad0.f_NoRow_init
 XS_NoRow_row : XStore K ad0.c_NoRow "row"
 CB_FolkError : CInitB K ad0.c_FolkError
 T_NoRow : XTell K ad0.c_NoRow
 H_NoRow_NoRow : PySem.W.exmOne K (.ref ad0.c_NoRow) (.ref ad0.c_NoRow) = some true
 H_NoRow_FolkError : PySem.W.exmOne K (.ref ad0.c_NoRow) (.ref ad0.c_FolkError) = some true
 I_NoRow_ValueError : PySem.W.kitOne K (.ref ad0.c_NoRow) (.type "ValueError") = some true
 I_NoRow_NoRow : PySem.W.kitOne K (.ref ad0.c_NoRow) (.ref ad0.c_NoRow) = some true
 I_NoRow_NoName : PySem.W.kitOne K (.ref ad0.c_NoRow) (.ref ad0.c_NoName) = some false
 I_NoRow_NoText : PySem.W.kitOne K (.ref ad0.c_NoRow) (.ref ad0.c_NoText) = some false
 I_NoRow_NoPair : PySem.W.kitOne K (.ref ad0.c_NoRow) (.ref ad0.c_NoPair) = some false
 Na_NoRow_row : zrc K ad0.c_NoRow "row"
 M_FIELDS : mg "FIELDS" = some (.ref ad0.k_FIELDS)
 K_FIELDS : TupK K ad0.k_FIELDS [[110, 97, 109, 101], [102, 111, 114, 109, 101, 114], [119, 97, 121], [100, 97, 121], [109, 97, 114, 107]]
 M_PAIR_FIELDS : mg "PAIR_FIELDS" = some (.ref ad0.k_PAIR_FIELDS)
 K_PAIR_FIELDS : TupK K ad0.k_PAIR_FIELDS [[115, 97, 109, 101], [97, 112, 97, 114, 116]]
 M_LETTERS : mg "LETTERS" = some ad0.u_LETTERS
 R_LETTERS : RelV (.str (T [97, 98, 99, 100, 101, 102, 103, 104, 105, 106, 107, 108, 109, 110, 111, 112, 113, 114, 115, 116, 117, 118, 119, 120, 121, 122])) ad0.u_LETTERS
 M_LONGEST_NAME : mg "LONGEST_NAME" = some ad0.u_LONGEST_NAME
 R_LONGEST_NAME : RelV (.int 12) ad0.u_LONGEST_NAME
 M_LONGEST_TEXT : mg "LONGEST_TEXT" = some ad0.u_LONGEST_TEXT
 R_LONGEST_TEXT : RelV (.int 40) ad0.u_LONGEST_TEXT
 M_NO_SIGN : mg "NO_SIGN" = some ad0.u_NO_SIGN
 R_NO_SIGN : RelV (.int 37) ad0.u_NO_SIGN
 F_NoRow_init : Fun K "__init__" "NoRow.__init__" za7 ad0.f_NoRow_init ad0.d_NoRow_init
 B_NoRow_init : zb0 K ad0.d_NoRow_init ["self", "row"] []
 F_is_name : Fun K "is_name" "is_name" zbr ad0.f_is_name ad0.d_is_name
 B_is_name : zb0 K ad0.d_is_name ["text"] []
 M_is_name : mg "is_name" = some (.ref ad0.f_is_name)
 F_is_sign : Fun K "is_sign" "is_sign" zbz ad0.f_is_sign ad0.d_is_sign
 B_is_sign : zb0 K ad0.d_is_sign ["sign"] []
 M_is_sign : mg "is_sign" = some (.ref ad0.f_is_sign)
 F_is_text : Fun K "is_text" "is_text" zbs ad0.f_is_text ad0.d_is_text
 B_is_text : zb0 K ad0.d_is_text ["text"] []
 M_is_text : mg "is_text" = some (.ref ad0.f_is_text)
 F_pair_fact : Fun K "pair_fact" "pair_fact" zbg ad0.f_pair_fact ad0.d_pair_fact
 B_pair_fact : zb0 K ad0.d_pair_fact ["one", "field", "other"] []
 M_pair_fact : mg "pair_fact" = some (.ref ad0.f_pair_fact)
 F_tidy : Fun K "tidy" "tidy" zes ad0.f_tidy ad0.d_tidy
 B_tidy : zb0 K ad0.d_tidy ["facts"] []
 M_tidy : mg "tidy" = some (.ref ad0.f_tidy)
 F_is_passed_by : Fun K "is_passed_by" "is_passed_by" zaw ad0.f_is_passed_by ad0.d_is_passed_by
 B_is_passed_by : zb0 K ad0.d_is_passed_by ["row"] []
 M_is_passed_by : mg "is_passed_by" = some (.ref ad0.f_is_passed_by)
 F_told_rows : Fun K "told_rows" "told_rows" zbc ad0.f_told_rows ad0.d_told_rows
 B_told_rows : zb0 K ad0.d_told_rows ["text"] []
 M_told_rows : mg "told_rows" = some (.ref ad0.f_told_rows)
 F_fact_of : Fun K "fact_of" "fact_of" zby ad0.f_fact_of ad0.d_fact_of
 B_fact_of : zb0 K ad0.d_fact_of ["row"] []
 M_fact_of : mg "fact_of" = some (.ref ad0.f_fact_of)
 F_numbered_fact : Fun K "numbered_fact" "numbered_fact" zas ad0.f_numbered_fact ad0.d_numbered_fact
 B_numbered_fact : zb0 K ad0.d_numbered_fact ["number", "row"] []
 M_numbered_fact : mg "numbered_fact" = some (.ref ad0.f_numbered_fact)
 F_read_book : Fun K "read_book" "read_book" zbb ad0.f_read_book ad0.d_read_book
 B_read_book : zb0 K ad0.d_read_book ["text"] []
 M_read_book : mg "read_book" = some (.ref ad0.f_read_book)
 F_law_cell_at : Fun K "_law_cell_at" "_law_cell_at" za0 ad0.f_law_cell_at ad0.d_law_cell_at
 B_law_cell_at : zb0 K ad0.d_law_cell_at ["_law_script", "_law_k"] []
 M_law_cell_at : mg "_law_cell_at" = some (.ref ad0.f_law_cell_at)
 F_law_whole : Fun K "_law_whole" "_law_whole" zbf ad0.f_law_whole ad0.d_law_whole
 B_law_whole : zb0 K ad0.d_law_whole ["_law_found"] []
 M_law_whole : mg "_law_whole" = some (.ref ad0.f_law_whole)
 F_law_stream : Fun K "_law_stream" "_law_stream" za6 ad0.f_law_stream ad0.d_law_stream
 B_law_stream : zb0 K ad0.d_law_stream ["_law_cell", "_law_many"] []
 M_law_stream : mg "_law_stream" = some (.ref ad0.f_law_stream)
 F_law_row : Fun K "_law_row" "_law_row" zbv ad0.f_law_row ad0.d_law_row
 B_law_row : zb0 K ad0.d_law_row ["_law_cell"] []
 M_law_row : mg "_law_row" = some (.ref ad0.f_law_row)
 F_law_bad : Fun K "_law_bad" "_law_bad" zbw ad0.f_law_bad ad0.d_law_bad
 B_law_bad : zb0 K ad0.d_law_bad ["_law_draw"] []
 M_law_bad : mg "_law_bad" = some (.ref ad0.f_law_bad)
 F_law_refused : Fun K "_law_refused" "_law_refused" za2 ad0.f_law_refused ad0.d_law_refused
 B_law_refused : zb0 K ad0.d_law_refused ["_law_text", "_law_number"] []
 M_law_refused : mg "_law_refused" = some (.ref ad0.f_law_refused)
 F_law : Fun K "law" "law" zio ad0.f_law ad0.d_law
 B_law : zb0 K ad0.d_law ["_law_script"] []
 M_law : mg "law" = some (.ref ad0.f_law)
 z_ValueError : mg "ValueError" = none
 z_all : mg "all" = none
 z_bool : mg "bool" = none
 z_enumerate : mg "enumerate" = none
 z_int : mg "int" = none
 z_isinstance : mg "isinstance" = none
 z_len : mg "len" = none
 z_list : mg "list" = none
 z_max : mg "max" = none
 z_min : mg "min" = none
 z_ord : mg "ord" = none
 z_range : mg "range" = none
 z_set : mg "set" = none
 z_sorted : mg "sorted" = none
 z_str : mg "str" = none
 z_tuple : mg "tuple" = none
section
variable {P : Program} {w : World} {K : PySem.W.Frag} {mg : Str -> Option Value} {base : Heap} {ad0 : Ad}
noncomputable def zlz (ds : List D) : Prop := ∃ (ns : List Int) (k : Int), ds = [.lst (ns.map .int), .int k] /\ 0 <= k
noncomputable def zc7 : List D -> D
 | [.lst xs, .int k] => xs.getD k.toNat (.int 0)
 | _ => .non
theorem zhd (Z : Tx K mg ad0) : FnOk P w K mg base CX0 1 ad0.f_law_cell_at ad0.d_law_cell_at ["_law_script", "_law_k"] (SpD K zlz zc7) := by
 refine Z.F_law_cell_at.ok zg8 (fun vs H Q E h => zbi (n:=2) (by rintro ds ⟨ns, k, rfl, _⟩; rfl) h) (fun cdv A outer s H vs Q E hr h => ⟨_, (zah (zfk (zcv zxj (pv 1) (zau zcs (by rfl) Z.z_len boot_len (zaa (pv 0) zae)) (zdf _)) (zaq (zbj (zbk (show IxR _ (rIxL K) from zar) (pv 0) (pv 1) (fun _ _ => rfl)))) zcg)
   (zaq (zbj zag))), ?_⟩)
 refine zeu h (by rw [zbi (n:=2) (by rintro ds ⟨ns, k, rfl, _⟩; rfl) h]; decide) fun G ds hp rt => ?_
 obtain ⟨ns, k, rfl, hk⟩ := hp
 have ll : (ns.map D.int).length = ns.length := by simp
 refine zat (zei (zbn (zo8 (g:=fun i j => decide (i < j)) (zad rfl).b (zf9 (zad rfl).l).b)) (fun hb => ?_) (fun hb => ?_))
 ·simp only [decide_eq_true_eq] at hb
  have hk2 : k.toNat < ns.length := by omega
  refine zb1 (zcf (d:=.int (ns.getD k.toNat 0)) (zad rfl).l (zad rfl).b ?_) ?_
  ·have := zk6 (xs:=ns.map D.int) (j:=k.toNat) (v:=D.int (ns.getD k.toNat 0)) (by rw [List.getElem?_map, List.getD_eq_getElem?_getD]; simp [hk2])
   rw [show ((k.toNat : Nat) : Int) = k by omega] at this
   exact this
  ·have e : zc7 [D.lst (ns.map D.int), D.int k] = .int (ns.getD k.toNat 0) := by
    simp [zc7, List.getD_eq_getElem?_getD, List.getElem?_map, hk2]
   rw [e] at rt; exact rt
 ·simp only [decide_eq_false_iff_not] at hb
  have e : zc7 [D.lst (ns.map D.int), D.int k] = .int 0 := by
   simp [zc7, List.getD_eq_getElem?_getD, List.getElem?_map, show ns[k.toNat]? = none from List.getElem?_eq_none (by omega)]
  rw [e] at rt
  refine zb5 ?_
  ((try dsimp only); refine zbh ?_)
  exact zb1 zai rt
noncomputable def M : Int := 4294967311
noncomputable def num (c : Int) : Nat -> Int
 | 0 => c % M + 48271
 | k + 1 => (num c k * num c k + 69621 * num c k + k) % M
theorem zu5 (c : Int) : ∀ k, 0 <= num c k /\ num c k < M + 48271
 | 0 => ⟨by have := Int.emod_nonneg c (show M ≠ 0 by decide); show 0 <= c % M + 48271; omega, by have := Int.emod_lt_of_pos c (show 0 < M by decide); show c % M + 48271 < M + 48271; omega⟩
 | k + 1 => ⟨Int.emod_nonneg _ (by decide), by have := Int.emod_lt_of_pos (num c k * num c k + 69621 * num c k + k) (show 0 < M by decide); show _ % M < M + 48271; omega⟩
noncomputable def zbu (c : Int) (m : Nat) : List D := (List.range m).map fun i => .int (num c (i + 2))
noncomputable def zeo (ds : List D) : Prop := ∃ c m : Int, ds = [.int c, .int m] /\ 0 <= m /\ m <= 1000
noncomputable def zce : List D -> List D
 | [.int c, .int m] => zbu c m.toNat
 | _ => []
theorem zej (Z : Tx K mg ad0) : FnOk P w K mg base CX0 1 ad0.f_law_stream ad0.d_law_stream ["_law_cell", "_law_many"] (SpO K zeo zce) := by
 refine Z.F_law_stream.ok zbx (fun vs H Q E h => ze7 (n:=2) (by rintro ds ⟨c, m, rfl, _⟩; rfl) h) (fun cdv A outer s H vs Q E hr h => ⟨_, (zah (zbq (i:=2) zbx.nd rfl (Or.inl rfl) (zep zae))
   (zah (zbq (i:=3) zbx.nd rfl (Or.inl rfl) (za3 ze9 (za3 zb9 (pv 0) zag) zag))
   (zah (zum PassesOwn.never rfl (zo7 (by rfl) Z.z_range (zaa (za3 ze9 (pv 1) zag) zae)) (zcw (i:=4) zbx.nd rfl (Or.inl rfl)) (zah (zbq (i:=3) zbx.nd rfl (Or.inl rfl) (za3 zb9 (za3 ze9 (za3 ze9 (za3 zt0 (pv 3) (pv 3)) (za3 zt0 zag (pv 3))) (pv 4)) zag))
   (zaq (zeb (zfn F.plainAttrs_list F.slot_list_append F.type_list_append zdv (pv 2) (zaa (pv 3) zae))))))
   (zaq (zbj (zma zrl (pv 2) (zlg zag) zuz)))))), ?_⟩)
 refine zqh h (by rw [ze7 (n:=2) (by rintro ds ⟨c, m, rfl, _⟩; rfl) h]; decide) fun G ds hp rt => ?_
 obtain ⟨c, m, rfl, hm0, hm1⟩ := hp
 refine zat (zcp (zc9 zaf (by decide)) fun p => ?_)
 ((try dsimp only); refine zbh ?_)
 refine zat (zd7 (zfc (zcc (zad rfl).b zai.b (by decide)).b zai.b) ?_)
 ((try dsimp only); refine zbh ?_)
 refine zat (zsl (n:=m + 1) (fun k ss => ∃ v4, ss = [.d (.int c), .d (.int m), .o p ((List.range k).map fun i => .int (num c (i + 1))), .d (.int (num c k)), v4]) (ztk (zfc (zad rfl).b zai.b).b zv2) ⟨by omega, by omega⟩ ⟨.un, rfl⟩ ?_ ?_ (fun _ _ _ h => h))
 ·rintro k ss hk ⟨v4, rfl⟩ N hN
  have hr := zu5 c k
  rw [show M = 4294967311 from rfl] at hr
  refine zat (zd7 (zcc (zfc (zfc (zt3 (zad rfl).b (zad rfl).b ?_).b (zt3 zai.b (zad rfl).b ?_).b).b (zad rfl).b).b zai.b (by decide)) ?_)
  ·exact .inl ⟨by omega, by omega⟩
  ·exact .inl ⟨by decide, by decide⟩
  ·((try dsimp only); refine zbh ?_)
   refine zgi rfl (zad rfl) ?_ ?_
   ·rw [List.length_map, List.length_range, sizeLine_eq]; omega
   ·refine hN _ ⟨.d (.int k), ?_⟩
    rw [List.range_succ, List.map_append]
    rfl
 ·rintro ss ⟨v4, rfl⟩
  ((try dsimp only); refine zbh ?_)
  refine zl0 (zqk (zdr rfl) (zic zai.b) zxo) ?_
  have e : cutD ((List.range (m + 1).toNat).map fun i => D.int (num c (i + 1))) (some 1) none = zce [.int c, .int m] := by
   rw [zpa _ (by decide), show (m + 1).toNat = m.toNat + 1 by omega]
   show List.drop 1 _ = zbu c m.toNat
   rw [List.range_succ_eq_map, List.map_cons, List.drop_succ_cons, List.drop_zero, List.map_map]
   rfl
  rw [e]; exact rt
theorem small {n : Nat} (h : n <= 1000) : n <= sizeLine := by rw [sizeLine_eq]; omega
theorem zpd {α : Type} (xs : List α) (z : α) (x : Int) {n : Int} (hn : (xs.length : Int) = n) (h0 : 0 < n) : atI xs (x % n) = some (xs.getD (x % n).toNat z) := by
 have h1 := Int.emod_nonneg x (show n ≠ 0 by omega)
 have h2 := Int.emod_lt_of_pos x h0
 have := zk6 (xs:=xs) (j:=(x % n).toNat) (v:=xs.getD (x % n).toNat z) (by rw [List.getD_eq_getElem?_getD, List.getElem?_eq_getElem (by omega)]; rfl)
 rw [show (((x % n).toNat : Nat) : Int) = x % n by omega] at this
 exact this
theorem zjr (c : Int) (m : Nat) (i : Nat) (h : i < m) : atI (zbu c m) (i : Int) = some (.int (num c (i + 2))) :=
 zk6 (by unfold zbu; rw [List.getElem?_map, List.getElem?_range h]; rfl)
noncomputable def lets : List Nat := ("abcdefghijklmnopqrstuvwxyz" : Str).cps.toList
theorem zih : lets.length = 26 := by decide +kernel
theorem zru : ∀ c ∈ lets, c < 128 := by decide +kernel
noncomputable def zbm (x : Int) : Nat := lets.getD (x % 26).toNat 0
theorem zib (x : Int) : atI lets (x % 26) = some (zbm x) := zpd lets 0 x (by rw [zih]; rfl) (by decide)
theorem ze2 (x : Int) : zbm x ∈ lets := by
 have h1 := Int.emod_nonneg x (show (26 : Int) ≠ 0 by decide)
 have h2 := Int.emod_lt_of_pos x (show (0 : Int) < 26 by decide)
 unfold zbm
 rw [List.getD_eq_getElem?_getD, List.getElem?_eq_getElem (by rw [zih]; omega)]
 exact List.getElem_mem _
noncomputable def zoi : List Nat := ((List.range 95).map (· + 32)).filter (· != 37)
noncomputable def flds : List (List Nat) := [[110, 97, 109, 101], [102, 111, 114, 109, 101, 114], [119, 97, 121], [100, 97, 121], [109, 97, 114, 107]]
noncomputable def prs : List (List Nat) := [[115, 97, 109, 101], [97, 112, 97, 114, 116]]
noncomputable def zde (n : List Nat) : Prop := 1 <= n.length /\ n.length <= 12 /\ ∀ c ∈ n, c ∈ lets
noncomputable instance (n : List Nat) : Decidable (zde n) := by unfold zde; exact inferInstance
noncomputable def zp2 (t : List Nat) : Prop := 1 <= t.length /\ t.length <= 40 /\ t = zcy [32].contains t /\ ∀ c ∈ t, c ∈ zoi
noncomputable def preS (ds : List D) : Prop := ∃ l, ds = [.str l] /\ l.length <= 1000
noncomputable def zea (l : List Nat) : Bool := (decide ((1 : Int) <= (l.length : Int)) && decide ((l.length : Int) <= 12)) && l.all fun c => decide (c ∈ lets)
noncomputable def ziy : List D -> D
 | [.str l] => .bl (zea l)
 | _ => .non
theorem zn2 (Z : Tx K mg ad0) : FnOk P w K mg base CX0 1 ad0.f_is_name ad0.d_is_name ["text"] (SpD K preS ziy) := by
 refine Z.F_is_name.ok znj (fun vs H Q E h => zbi (n:=1) (by rintro ds ⟨c, rfl, _⟩; rfl) h) (fun cdv A outer s H vs Q E hr h => ⟨_, (zaq (zbj (zji (zmk zsa zsa zag (zau zfg (by rfl) Z.z_len boot_len (zaa (pv 0) zae)) (zcl (by rfl) Z.M_LONGEST_NAME Z.R_LONGEST_NAME)) (zhw (zau (zm5 rfl) (by rfl) Z.z_all boot_all (zaa (zu3 rfl (LcOk.of (Nx:=(["text"] : List Str)) (sc:=zac zbr) (N':=(["sign"] : List Str)) (nt:=1) (cs:=[]) rfl rfl (by decide +kernel)) (zty (pv 0)) (fun _ _ _ _ => (zcw (i:=0) (show List.Nodup (["sign"] : List Str) by decide +kernel) rfl (Or.inl rfl))) (fun _ _ _ _ => zja) (fun _ _ _ _ => (ze0 zp6 (pv 0) (zcl (by rfl) Z.M_LETTERS Z.R_LETTERS) (by with_unfolding_all rfl)))) zae)))))), ?_⟩)
 refine zeu h (by rw [zbi (n:=1) (by rintro ds ⟨c, rfl, _⟩; rfl) h]; decide) fun G ds hp rt => ?_
 obtain ⟨l, rfl, hl⟩ := hp
 have rt : RtD K G H Q (.bl (zea l)) := rt
 have hz : l.length <= sizeLine := small hl
 exact zb1 (zkm (zj6 zai.b (zpe (zad rfl).b hz).b zai.b) fun _ => zq7 (xs:=l) (g:=fun c => decide (c ∈ lets)) (EvO.l (zks l (fun c => .bl (decide (c ∈ lets))) (zad rfl).b (zdk (by decide)) (by decide) (by rw [sizeLine_eq]; omega) fun c hc => ⟨_, zb4, zx5 (zad rfl).b (za5 (l:=lets) (by decide +kernel) zru).b⟩))) rt
theorem zkb {l : List Nat} (h : zde l) : zea l = true := by
 unfold zea
 obtain ⟨h1, h2, h3⟩ := h
 rw [decide_eq_true (show (1 : Int) <= (l.length : Int) by omega), decide_eq_true (show (l.length : Int) <= 12 by omega)]
 simp only [Bool.true_and, List.all_eq_true, decide_eq_true_eq]
 exact h3
noncomputable def preC (ds : List D) : Prop := ∃ c : Nat, ds = [.str [c]]
noncomputable def zk9 (c : Nat) : Bool := (!decide ([c] < [32]) && !decide ([126] < [c])) && !decide ((c : Int) = 37)
noncomputable def zpx : List D -> D
 | [.str [c]] => .bl (zk9 c)
 | _ => .non
theorem zon (Z : Tx K mg ad0) : FnOk P w K mg base CX0 1 ad0.f_is_sign ad0.d_is_sign ["sign"] (SpD K preC zpx) := by
 refine Z.F_is_sign.ok zoo (fun vs H Q E h => zbi (n:=1) (by rintro ds ⟨c, rfl⟩; rfl) h) (fun cdv A outer s H vs Q E hr h => ⟨_, (zaq (zbj (zji (zmk zkl zkl zap (pv 0) zap) (zhw (ze0 zw9 (zau zto (by rfl) Z.z_ord boot_ord (zaa (pv 0) zae)) (zcl (by rfl) Z.M_NO_SIGN Z.R_NO_SIGN) (zdf _)))))), ?_⟩)
 refine zeu h (by rw [zbi (n:=1) (by rintro ds ⟨c, rfl⟩; rfl) h]; decide) fun G ds hp rt => ?_
 obtain ⟨c, rfl⟩ := hp
 have rt : RtD K G H Q (.bl (zk9 c)) := rt
 exact zb1 (zkm (zqo (za5 (l:=[32]) (by decide +kernel) (by decide)).b (zad rfl).b (za5 (l:=[126]) (by decide +kernel) (by decide)).b) fun _ => zyg (zyd (zad rfl).b).b zai.b) rt
theorem zq5 : ∀ c ∈ zoi, zk9 c = true := by decide +kernel
noncomputable def ze3 (l : List Nat) : Bool := (decide ((1 : Int) <= (l.length : Int)) && decide ((l.length : Int) <= 40)) && (decide (l = zcy [32].contains l) && l.all fun c => zk9 c)
noncomputable def zp3 : List D -> D
 | [.str l] => .bl (ze3 l)
 | _ => .non
theorem zod (Z : Tx K mg ad0) : FnOk P w K mg base CX0 2 ad0.f_is_text ad0.d_is_text ["text"] (SpD K preS zp3) := by
 have G_is_sign := zon (P:=P) (w:=w) (base:=base) Z
 refine Z.F_is_text.ok zob (fun vs H Q E h => zbi (n:=1) (by rintro ds ⟨c, rfl, _⟩; rfl) h) (fun cdv A outer s H vs Q E hr h => ⟨_, (zah (zfk (zht (zs2 zsa zsa zag (zau zfg (by rfl) Z.z_len boot_len (zaa (pv 0) zae)) (zcl (by rfl) Z.M_LONGEST_TEXT Z.R_LONGEST_TEXT))) (zaq (zbj ztj)) zcg)
   (zaq (zbj (zji (ze0 znr (pv 0) (zfn F.plainAttrs_str F.slot_str_strip F.type_str_strip zkw (pv 0) (zaa zap zae)) (zdf _)) (zhw (zau (zm5 rfl) (by rfl) Z.z_all boot_all (zaa (zu3 rfl (LcOk.of (Nx:=(["text"] : List Str)) (sc:=zac zbs) (N':=(["sign"] : List Str)) (nt:=1) (cs:=[]) rfl rfl (by decide +kernel)) (zty (pv 0)) (fun _ _ _ _ => (zcw (i:=0) (show List.Nodup (["sign"] : List Str) by decide +kernel) rfl (Or.inl rfl))) (fun _ _ _ _ => zja) (fun _ _ _ _ => (zbd G_is_sign (hr.mono (by decide)) (by rfl) Z.M_is_sign Z.F_is_sign.kp Z.B_is_sign .nil zcx (zaa (pv 0) zae)))) zae))))))), ?_⟩)
 refine zeu h (by rw [zbi (n:=1) (by rintro ds ⟨c, rfl, _⟩; rfl) h]; decide) fun G ds hp rt => ?_
 obtain ⟨l, rfl, hl⟩ := hp
 have rt : RtD K G H Q (.bl (ze3 l)) := rt
 have hz : l.length <= sizeLine := small hl
 refine zat (zei (zez (zbn (zj6 zai.b (zpe (zad rfl).b hz).b zai.b))) (fun hb => ?_) (fun hb => ?_))
 ·have e : ze3 l = false := by
   unfold ze3
   rw [Bool.not_eq_true'] at hb
   rw [hb, Bool.false_and]
  rw [e] at rt
  exact zb1 zyj rt
 ·refine zb5 ?_
  ((try dsimp only); refine zbh ?_)
  have e : ze3 l = (decide (l = zcy [32].contains l) && l.all fun c => zk9 c) := by
   unfold ze3
   rw [Bool.not_eq_false'] at hb
   rw [hb, Bool.true_and]
  rw [e] at rt
  exact zb1 (zkm (zul (zad rfl).b (zmy (zad rfl).b (za5 (l:=[32]) (by decide +kernel) (by decide)).b hz).b) fun _ => zq7 (xs:=l) (g:=fun c => zk9 c) (EvO.l (zks l (fun c => .bl (zk9 c)) (zad rfl).b (zdk (by decide)) (by decide) (by rw [sizeLine_eq]; omega) fun c hc => ⟨_, zb4, zco (pre:=preC) (res:=zpx) (zab (zad rfl) zaf) ⟨c, rfl⟩⟩))) rt
theorem zp1 {l : List Nat} (h : zp2 l) : ze3 l = true := by
 unfold ze3
 obtain ⟨h1, h2, h3, h4⟩ := h
 rw [decide_eq_true (show (1 : Int) <= (l.length : Int) by omega), decide_eq_true (show (l.length : Int) <= 40 by omega), decide_eq_true h3]
 simp only [Bool.true_and, List.all_eq_true]
 exact fun c hc => zq5 c (h4 c hc)
noncomputable def zvi (ds : List D) : Prop := ∃ a f b, ds = [.str a, .str f, .str b]
noncomputable def zo9 : List D -> D
 | [.str a, .str f, .str b] => .tup [.str (minL a b), .str f, .str (maxL a b)]
 | _ => .non
theorem zj5 (Z : Tx K mg ad0) : FnOk P w K mg base CX0 1 ad0.f_pair_fact ad0.d_pair_fact ["one", "field", "other"] (SpD K zvi zo9) := by
 refine Z.F_pair_fact.ok zkj (fun vs H Q E h => zbi (n:=3) (by rintro ds ⟨a, f, b, rfl⟩; rfl) h) (fun cdv A outer s H vs Q E hr h => ⟨_, (zaq (zbj (zgq (zaa (zau (zjf rfl) (by rfl) Z.z_min boot_min (zaa (pv 0) (zaa (pv 2) zae))) (zaa (pv 1) (zaa (zau (zj3 rfl) (by rfl) Z.z_max boot_max (zaa (pv 0) (zaa (pv 2) zae))) zae)))))), ?_⟩)
 refine zeu h (by rw [zbi (n:=3) (by rintro ds ⟨a, f, b, rfl⟩; rfl) h]; decide) fun G ds hp rt => ?_
 obtain ⟨a, f, b, rfl⟩ := hp
 exact zb1 (zgf (zab (zop (zad rfl).b (zad rfl).b) (zab (zad rfl) (zab (zrr (zad rfl).b (zad rfl).b) zaf))) (small (by simp))) rt
noncomputable abbrev Row := List Nat × List Nat × List Nat
noncomputable def rowL (x : Row) : List Nat := x.1 ++ 32 :: (x.2.1 ++ 32 :: x.2.2)
noncomputable def zs5 (x : Row) : Prop := zde x.1 /\ ((x.2.1 ∈ flds /\ zp2 x.2.2) \/ (x.2.1 ∈ prs /\ zde x.2.2 /\ x.1 ≠ x.2.2))
noncomputable def zyv (x : Row) (ds : List D) : Prop := ds = [.str (rowL x)] /\ zs5 x
noncomputable def zlb (x : Row) : D := if x.2.1 ∈ prs then .tup [.str (minL x.1 x.2.2), .str x.2.1, .str (maxL x.1 x.2.2)] else .tup [.str x.1, .str x.2.1, .str x.2.2]
theorem zkz : ∀ f ∈ flds, f ∉ prs := by decide +kernel
theorem zpf : ∀ f ∈ prs, f ∉ flds := by decide +kernel
theorem zuo : 32 ∉ lets := by decide +kernel
theorem ztr {f : List Nat} {ls : List (List Nat)} : decide (D.str f ∈ ls.map D.str) = decide (f ∈ ls) := by
 congr 1
 rw [List.mem_map]
 apply propext
 exact ⟨fun ⟨g, hg, e⟩ => by injection e with e; rw [<- e]; exact hg, fun h => ⟨f, h, rfl⟩⟩
theorem ziv (Z : Tx K mg ad0) : FnOk P w K mg base CX0 1 ad0.f_NoRow_init ad0.d_NoRow_init ["self", "row"] (zjm ad0.c_NoRow "row") := by
 refine Z.F_NoRow_init.ok zeh (fun vs H Q E h => by obtain ⟨e, n, rfl, _⟩ := h; rfl) (fun cdv A outer s H vs Q E hr h => ⟨_, (zah (zeb (zhn (by rfl) Z.M_FolkError Z.CB_FolkError (zaa (pv 0) (zaa (zm2 (pv 1)) zae))))
   (zaq (zkh (pv 0) (pv 1) (by rfl)))), ?_⟩)
 exact zku Z.XM_NoRow.cls Z.XS_NoRow_row (by decide +kernel) (by decide +kernel) h
noncomputable def fof (r : List Nat) : Option D := match zao 32 2 r with
 | [a, f, t] => if zea a = true then (if f ∈ flds /\ ze3 t = true then some (.tup [.str a, .str f, .str t]) else if f ∈ prs /\ zea t = true /\ a ≠ t then some (zo9 [.str a, .str f, .str t]) else none) else none
 | _ => none
noncomputable def zxn : List D -> Prop
 | [.str r] => fof r = none
 | _ => False
noncomputable def ztz : List D -> D
 | [.str r] => (fof r).getD .non
 | _ => .non
theorem sp3 (r : List Nat) : (∃ a f t, zao 32 2 r = [a, f, t]) \/ ((zao 32 2 r).length < 3 /\ fof r = none /\ ∃ a l, zao 32 2 r = a :: l) := by
 have h := zcd 32 2 r
 unfold fof
 match hs : zao 32 2 r, h with
 | [], _ => exact absurd hs (by unfold zao; split <;> simp)
 | [a], _ => exact .inr ⟨by simp, rfl, a, [], rfl⟩
 | [a, b], _ => exact .inr ⟨by simp, rfl, a, [b], rfl⟩
 | [a, b, c], _ => exact .inl ⟨a, b, c, rfl⟩
 | a :: b :: c :: d :: l, h => exact absurd h (by simp)
theorem zhq (z : Nat) : ∀ n l, ∀ x ∈ zao z n l, x.length <= l.length
 | 0, l, x, h => by unfold zao at h; rw [List.mem_singleton.mp h]; exact Nat.le_refl _
 | n + 1, l, x, h => by
  unfold zao at h
  split at h
  ·rw [List.mem_singleton.mp h]; exact Nat.le_refl _
  ·rename_i y b hd
   have hb : b.length < l.length := by
    have := (List.dropWhile_sublist (l:=l) (· != z)).length_le
    rw [hd, List.length_cons] at this; omega
   rcases List.mem_cons.mp h with h | h
   ·rw [h]; exact (List.takeWhile_sublist (l:=l) (· != z)).length_le
   ·have := zhq z n b x h
    omega
theorem zn5 (Z : Tx K mg ad0) : FnOk P w K mg base (CXB true P w) 3 ad0.f_fact_of ad0.d_fact_of ["row"] (SpX K ad0.c_NoRow "row" preS zxn ztz fun _ => .int 1) := by
 have G_is_name : FnOk P w K mg base CX0 2 ad0.f_is_name ad0.d_is_name ["text"] (SpD K preS ziy) := (zn2 Z).mono (by decide)
 have G_is_text := zod (P:=P) (w:=w) (base:=base) Z
 have G_pair_fact : FnOk P w K mg base CX0 2 ad0.f_pair_fact ad0.d_pair_fact ["one", "field", "other"] (SpD K zvi zo9) := (zj5 Z).mono (by decide)
 have G_NoRow_init := ziv (P:=P) (w:=w) (base:=base) Z
 refine Z.F_fact_of.okX2 zhv (fun vs H Q E h => ze4 (n:=1) (by rintro ds ⟨c, rfl, _⟩; rfl) h) (fun cdv A outer s H vs Q E hr h => ⟨_, (zah (zq2 (zbq (i:=1) zhv.nd rfl (Or.inl rfl) (zfn F.plainAttrs_str F.slot_str_split F.type_str_split zqm (pv 0) (zaa zap (zaa zag zae)))))
   (zah (zfk (PT.nox (PW.pt (zs6 (zcv zxj (zau zcs (by rfl) Z.z_len boot_len (zaa (pv 1) zae)) zag (zdf _)) (zpl (zht (zd4 (zbd G_is_name (hr.mono (by decide)) (by rfl) Z.M_is_name Z.F_is_name.kp Z.B_is_name .nil zcx (zaa (zbk (show IxR _ (rIxL K) from zar) (pv 1) zag (fun _ _ => rfl)) zae)))))))) (zaq (zjo (zj9 Z.XM_NoRow G_NoRow_init (hr.mono (by decide)) (by rfl) Z.M_NoRow Z.B_NoRow_init zcx (zaa (PE.nox zag) zae) (by decide)))) zcg)
   (zah (zq2 (zfk (PW.pt (zmr (zcv (show OpR _ _ (rInD K false) from zuh hr.units) (zbk (show IxR _ (rIxL K) from zar) (pv 1) zag (fun _ _ => rfl)) (zcl (v:=.ref ad0.k_FIELDS) (by rfl) Z.M_FIELDS rfl) (by with_unfolding_all rfl)) (zl2 (zd4 (zbd G_is_text (hr.mono (by decide)) (by rfl) Z.M_is_text Z.F_is_text.kp Z.B_is_text .nil zcx (zaa (zbk (show IxR _ (rIxL K) from zar) (pv 1) zag (fun _ _ => rfl)) zae)))))) (zaq (zbj (zeq zhz (by rfl) Z.z_tuple boot_tuple (zaa (pv 1) zae)))) zcg))
   (zah (zq2 (zfk (PW.pt (zmr (zcv (show OpR _ _ (rInD K false) from zuh hr.units) (zbk (show IxR _ (rIxL K) from zar) (pv 1) zag (fun _ _ => rfl)) (zcl (v:=.ref ad0.k_PAIR_FIELDS) (by rfl) Z.M_PAIR_FIELDS rfl) (by with_unfolding_all rfl)) (zmr (zd4 (zbd G_is_name (hr.mono (by decide)) (by rfl) Z.M_is_name Z.F_is_name.kp Z.B_is_name .nil zcx (zaa (zbk (show IxR _ (rIxL K) from zar) (pv 1) zag (fun _ _ => rfl)) zae))) (zl2 (zcv zw9 (zbk (show IxR _ (rIxL K) from zar) (pv 1) zag (fun _ _ => rfl)) (zbk (show IxR _ (rIxL K) from zar) (pv 1) zag (fun _ _ => rfl)) (zdf _)))))) (zaq (zbj (zbd G_pair_fact (hr.mono (by decide)) (by rfl) Z.M_pair_fact Z.F_pair_fact.kp Z.B_pair_fact .nil zcx (zaa (zbk (show IxR _ (rIxL K) from zar) (pv 1) zag (fun _ _ => rfl)) (zaa (zbk (show IxR _ (rIxL K) from zar) (pv 1) zag (fun _ _ => rfl)) (zaa (zbk (show IxR _ (rIxL K) from zar) (pv 1) zag (fun _ _ => rfl)) zae)))))) zcg))
   (zaq (zjo (zj9 Z.XM_NoRow G_NoRow_init (hr.mono (by decide)) (by rfl) Z.M_NoRow Z.B_NoRow_init zcx (zaa (PE.nox zag) zae) (by decide)))))))), ?_⟩)
 refine zrv h (by rw [ze4 (n:=1) (by rintro ds ⟨c, rfl, _⟩; rfl) h]; decide) fun G ds hp rt rx => ?_
 obtain ⟨r, rfl, hrl⟩ := hp
 have rx : fof r = none -> RtX2 K G H E ad0.c_NoRow "row" (.int 1) := rx
 have rt : ¬ fof r = none -> RtD K G H Q ((fof r).getD .non) := rt
 refine zat (zcp (ds:=(zao 32 (2 : Int).toNat r).map D.str) (zn3 (zad rfl).b (za5 (l:=[32]) (by decide +kernel) (by decide)).b zai.b ⟨by decide, by decide⟩ (small hrl)) fun p => zcn (i:=1) rfl ?_)
 ((try dsimp only); refine zbh ?_)
 rw [show (2 : Int).toNat = 2 from rfl]
 rcases sp3 r with ⟨c, f, t, hs⟩ | ⟨h1, h2, a, l, h3⟩
 ·rw [hs]
  have hlen : ∀ x ∈ zao 32 2 r, x.length <= 1000 := fun x hx => Nat.le_trans (zhq 32 2 r x hx) hrl
  rw [hs] at hlen
  have lc := hlen c (by simp)
  have lf := hlen f (by simp)
  have lt := hlen t (by simp)
  have hf : fof r = if zea c = true then (if f ∈ flds /\ ze3 t = true then some (.tup [.str c, .str f, .str t]) else if f ∈ prs /\ zea t = true /\ c ≠ t then some (zo9 [.str c, .str f, .str t]) else none) else none := by unfold fof; rw [hs]
  refine zat (zei (b:=(decide ((([D.str c, D.str f, D.str t].length : Nat) : Int) < 3) || !zea c)) (zkp (zbn (zws (zf9 (zad rfl).l).b zai.b)) fun _ => zez (zg9 (zco (pre:=preS) (res:=ziy) (zab (zcf (d:=.str c) (zad rfl).l zai.b rfl) zaf) ⟨c, rfl, lc⟩))) (fun hb => ?_) (fun hb => ?_))
  ·have hn : zea c = false := by simpa using hb
   exact zef Z.XM_NoRow.cls (zab zai zaf) (by decide) (by decide) (rx (by rw [hf, hn]; rfl))
  ·have hn : zea c = true := by simpa using hb
   rw [hn, if_pos rfl] at hf
   refine zb5 ?_
   ((try dsimp only); refine zbh ?_)
   have inT : ∀ {ls : List (List Nat)} {k : Addr} (h : TupK K k ls) {L0 : Hp} {ss : List Sl} (hs : ss[1]? = some (.d (.lst [.str c, .str f, .str t]))), Ev K G H L0 ss (tOp (rInD K false) (tOp (rIxL K) (tVar 1) (tC (.int 1))) (tC (.ref k))) (.bl (decide (f ∈ ls))) := fun {ls k} h {L0 ss} hs => by
    rw [<- ztr]
    exact zx7 (zcf (zad hs).l zai.b rfl).b (ztu h).b rfl (D.nbs_map (fun _ => rfl) ls) (by simp [D.dep])
   refine zat (zei (b:=(decide (f ∈ flds) && ze3 t)) (zgt (zbn (inT Z.K_FIELDS rfl)) fun _ => zg9 (zco (pre:=preS) (res:=zp3) (zab (zcf (d:=.str t) (zad rfl).l zai.b rfl) zaf) ⟨t, rfl, lt⟩)) (fun hb => ?_) (fun hb => ?_))
   ·have h1 : f ∈ flds /\ ze3 t = true := by simpa using hb
    rw [if_pos h1] at hf
    rw [hf] at rt
    exact zb1 (znf (zad rfl).l (small (by simp))) (rt (by simp))
   ·have h1 : ¬ (f ∈ flds /\ ze3 t = true) := fun z => by rw [decide_eq_true z.1, z.2] at hb; cases hb
    rw [if_neg h1] at hf
    refine zb5 ?_
    ((try dsimp only); refine zbh ?_)
    refine zat (zei (b:=(decide (f ∈ prs) && (zea t && !decide (c = t)))) (zgt (zbn (inT Z.K_PAIR_FIELDS rfl)) fun _ => zgt (zg9 (zco (pre:=preS) (res:=ziy) (zab (zcf (d:=.str t) (zad rfl).l zai.b rfl) zaf) ⟨t, rfl, lt⟩)) fun _ => zbn (zwt (zcf (d:=.str c) (zad rfl).l zai.b rfl).b (zcf (d:=.str t) (zad rfl).l zai.b rfl).b)) (fun hb => ?_) (fun hb => ?_))
    ·have h2 : f ∈ prs /\ zea t = true /\ c ≠ t := by simpa using hb
     rw [if_pos h2] at hf
     rw [hf] at rt
     exact zb1 (zco (pre:=zvi) (res:=zo9) (zab (zcf (zad rfl).l zai.b rfl) (zab (zcf (zad rfl).l zai.b rfl) (zab (zcf (zad rfl).l zai.b rfl) zaf))) ⟨c, f, t, rfl⟩) (rt (by simp))
    ·have h2 : ¬ (f ∈ prs /\ zea t = true /\ c ≠ t) := fun z => by rw [decide_eq_true z.1, z.2.1, decide_eq_false z.2.2] at hb; cases hb
     rw [if_neg h2] at hf
     refine zb5 ?_
     ((try dsimp only); refine zbh ?_)
     exact zef Z.XM_NoRow.cls (zab zai zaf) (by decide) (by decide) (rx hf)
 ·refine zat (zei (b:=(decide (((((zao 32 2 r).map D.str).length : Nat) : Int) < 3) || !true)) (zkp (zbn (zws (zf9 (zad rfl).l).b zai.b)) fun hb => ?_) (fun _ => zef Z.XM_NoRow.cls (zab zai zaf) (by decide) (by decide) (rx h2)) (fun hb => ?_))
  ·rw [List.length_map] at hb
   rw [decide_eq_true (show (((zao 32 2 r).length : Nat) : Int) < 3 by omega)] at hb; cases hb
  ·rw [List.length_map, decide_eq_true (show (((zao 32 2 r).length : Nat) : Int) < 3 by omega)] at hb; cases hb
noncomputable def S (x : Str) : D := .str x.cps.toList
noncomputable def zwy : List D := [S "same", S "apart"]
noncomputable def zwj : List D := [S "name", S "former", S "way", S "day", S "mark"]
noncomputable abbrev Fct := List Nat × List Nat × List Nat
noncomputable def encF (f : Fct) : D := .tup [.str f.1, .str f.2.1, .str f.2.2]
noncomputable def unF : D -> Fct
 | .tup [.str a, .str b, .str c] => (a, b, c)
 | _ => ([], [], [])
theorem zld (fs : List Fct) : (fs.map encF).map unF = fs := by
 rw [List.map_map, show (unF ∘ encF) = id from rfl, List.map_id]
theorem zmu {f g : Fct} (h : encF f = encF g) : f = g := congrArg unF h
theorem ze6 {fs : List Fct} {f : Fct} : encF f ∈ fs.map encF ↔ f ∈ fs :=
 ⟨fun h => by obtain ⟨g, hg, e⟩ := List.mem_map.mp h; rw [<- zmu e]; exact hg, fun h => List.mem_map_of_mem h⟩
theorem zvt {fs : List Fct} (h : fs.Nodup) : (fs.map encF).Nodup := by
 unfold List.Nodup at *
 rw [List.pairwise_map]
 exact h.imp fun a e => a (zmu e)
theorem alF (fs : List Fct) : zdw (fs.map encF) := .inr (.inr ⟨.s, [.s, .s], fun d hd => by
 obtain ⟨f, _, rfl⟩ := List.mem_map.mp hd; exact ⟨_, rfl, rfl⟩⟩)
theorem hkF (fs : List Fct) : ∀ d ∈ fs.map encF, d.hk false = true := by
 intro d hd; obtain ⟨f, _, rfl⟩ := List.mem_map.mp hd; rfl
theorem nbF (f : Fct) : (encF f).nb = true := rfl
theorem dpF (f : Fct) : (encF f).dep <= 1 := by show (D.deps [.str f.1, .str f.2.1, .str f.2.2]) + 1 <= 1; simp [D.deps, D.dep]
theorem zuk {ds : List D} {fs : List Fct} (h : ∀ d ∈ ds, d ∈ fs.map encF) : (ds.map unF).map encF = ds := by
 rw [List.map_map]
 conv => rhs; rw [<- List.map_id ds]
 exact List.map_congr_left fun d hd => by obtain ⟨f, _, rfl⟩ := List.mem_map.mp (h d hd); rfl
noncomputable def Bk (b : List Fct) : Prop := b.Nodup /\ zdg (b.map encF) = b.map encF
theorem znv (ds : List D) (h : zdw ds) : zdg (zdg ds) = zdg ds := zd8 h (zb3 ds)
noncomputable def mkB (fs : List Fct) : List Fct := (zdg (fs.map encF)).map unF
theorem zi1 (fs : List Fct) : (mkB fs).map encF = zdg (fs.map encF) := zuk fun d hd => (zb3 _).mem_iff.mp hd
theorem zqd (fs : List Fct) (f : Fct) : f ∈ mkB fs ↔ f ∈ fs := by rw [<- ze6, zi1, (zb3 _).mem_iff, ze6]
theorem zuf {fs : List Fct} (h : fs.Nodup) : Bk (mkB fs) := by
 refine ⟨?_, ?_⟩
 ·have : ((mkB fs).map encF).Nodup := by rw [zi1]; exact (zb3 _).nodup_iff.mpr (zvt h)
  unfold List.Nodup at *
  rw [List.pairwise_map] at this
  exact this.imp fun a e => a (congrArg encF e)
 ·rw [zi1, znv _ (alF fs)]
theorem Bk.ext {a b : List Fct} (ha : Bk a) (hb : Bk b) (h : ∀ f, f ∈ a ↔ f ∈ b) : a = b := by
 have p : (a.map encF).Perm (b.map encF) := ((List.perm_ext_iff_of_nodup ha.1 hb.1).mpr h).map _
 have := zd8 (alF b) p
 rw [ha.2, hb.2] at this
 have := congrArg (List.map unF) this
 rwa [zld, zld] at this
theorem zii (fs : List Fct) : zdg (fs.map encF) = (mkB fs).map encF := (zi1 fs).symm
noncomputable def zso (K : PySem.W.Frag) : Sp := fun vs H Q _ => ∃ (a : Addr) (ns : List Int), vs = [.ref a] /\ SqL K H a (ns.map V.int) /\ ns.length <= 63 /\ ∀ H', Q (.bl true) H'
theorem zj0 {K : PySem.W.Frag} {H : Hp} : ∀ ns : List Int, Reps K H (ns.map D.int) (ns.map V.int)
 | [] => Reps.nil
 | n :: ns => Reps.cons Rep.int (zj0 ns)
noncomputable def dedF (fs : List Fct) : List Fct := (ded (fs.map encF)).map unF
theorem zf1 (fs : List Fct) : (dedF fs).map encF = ded (fs.map encF) := zuk fun d hd => ze5.mp hd
theorem zsx (fs : List Fct) (f : Fct) : f ∈ dedF fs ↔ f ∈ fs := by rw [<- ze6, zf1, ze5, ze6]
theorem zs0 (fs : List Fct) : (dedF fs).Nodup := by
 have : ((dedF fs).map encF).Nodup := by rw [zf1]; exact zer _
 unfold List.Nodup at *
 rw [List.pairwise_map] at this
 exact this.imp fun a e => a (congrArg encF e)
noncomputable def bkD (b : List Fct) : D := .lst (b.map encF)
theorem zt7 (x : List Fct) : (bkD x).nb = true := by show (D.lst (x.map encF)).nb = true; rw [D.nb_lst]; exact D.nbs_map nbF x
theorem zv4 (x : List Fct) : (bkD x).dep <= 2 := by show (D.lst (x.map encF)).dep <= 2; rw [D.dep_lst]; have := D.deps_map dpF x; omega
theorem zsy (fs : List Fct) : (dedF fs).length <= fs.length := by
 unfold dedF
 rw [List.length_map]
 have := zqn (fs.map encF)
 rwa [List.length_map] at this
noncomputable def zls (ds : List D) : Prop := ∃ fs : List Fct, ds = [bkD fs] /\ fs.length <= 500 /\ (dedF fs).length < 64
noncomputable def zgx : List D -> List D
 | [.lst b] => (mkB (dedF (b.map unF))).map encF
 | _ => []
theorem zgp (b : List Fct) : zgx [bkD b] = (mkB (dedF b)).map encF := by
 show (mkB (dedF ((b.map encF).map unF))).map encF = _
 rw [zld]
theorem zvp (Z : Tx K mg ad0) : FnOk P w K mg base CX0 1 ad0.f_tidy ad0.d_tidy ["facts"] (SpO K zls zgx) := by
 refine Z.F_tidy.ok zve (fun vs H Q E h => ze7 (n:=1) (by rintro ds ⟨c, rfl, _⟩; rfl) h) (fun cdv A outer s H vs Q E hr h => ⟨_, (zaq (zbj (zau (show zca _ _ (zh3 P w K false) from zg1 rfl) (by rfl) Z.z_sorted boot_sorted (zaa (zeq (show zca _ _ (zox P w K false) from zrb rfl hr.units) (by rfl) Z.z_set boot_set (zaa (pv 0) zae)) zae)))), ?_⟩)
 refine zqh h (by rw [ze7 (n:=1) (by rintro ds ⟨c, rfl, _⟩; rfl) h]; decide) fun G ds hp rt => ?_
 obtain ⟨fs, rfl, hf, h64⟩ := hp
 rw [zgp, <- zii, zf1] at rt
 exact zl0 (zh8 (ded (fs.map encF)) (zun (zad rfl).l (hkF fs) (by rw [List.length_map]; omega)) (hkF fs) (alF fs) (zer _) (by rw [<- zf1, List.length_map]; exact h64) fun d => ze5) rt
noncomputable def zdn (l : List Nat) : Bool := decide (zcy [32].contains l = []) || decide (l.head? = some 35)
noncomputable def preL (ds : List D) : Prop := ∃ l, ds = [.str l] /\ l.length <= 1000000
noncomputable def zq4 : List D -> D
 | [.str l] => .bl (zdn l)
 | _ => .non
theorem zf3 (Z : Tx K mg ad0) : FnOk P w K mg base CX0 1 ad0.f_is_passed_by ad0.d_is_passed_by ["row"] (SpD K preL zq4) := by
 refine Z.F_is_passed_by.ok zgk (fun vs H Q E h => zbi (n:=1) (by rintro ds ⟨c, rfl, _⟩; rfl) h) (fun cdv A outer s H vs Q E hr h => ⟨_, (zaq (zbj (zym (ze0 znr (zfn F.plainAttrs_str F.slot_str_strip F.type_str_strip zkw (pv 0) (zaa zap zae)) zap (zdf _)) (zhw (zfn F.plainAttrs_str F.slot_str_startswith F.type_str_startswith (show MtR _ _ zll from ziq) (pv 0) (zaa zap zae)))))), ?_⟩)
 refine zeu h (by rw [zbi (n:=1) (by rintro ds ⟨c, rfl, _⟩; rfl) h]; decide) fun G ds hp rt => ?_
 obtain ⟨l, rfl, hl⟩ := hp
 have rt : RtD K G H Q (.bl (zdn l)) := rt
 exact zb1 (zyt (zul (zmy (zad rfl).b (za5 (l:=[32]) (by decide +kernel) (by decide)).b (by rw [sizeLine_eq]; omega)).b (za5 (l:=[]) (by decide +kernel) (by decide)).b) fun _ => zry (zad rfl).b (za5 (l:=[35]) (by decide +kernel) (by decide)).b) rt
noncomputable def lnAt (l : List Nat) (i : Nat) : List Nat := (zct 10 l).getD i []
noncomputable def zcm (l : List Nat) : List Nat := (List.range (zct 10 l).length).filter fun i => !zdn (lnAt l i)
noncomputable def numD (l : List Nat) (i : Nat) : D := .tup [.int ((i + 1 : Nat) : Int), .str (lnAt l i)]
noncomputable def zid : List D -> List D
 | [.str l] => (zcm l).map (numD l)
 | _ => []
theorem zed {z : Nat} : ∀ {n : Nat} {l p : List Nat}, p ∈ zao z n l -> p.length <= l.length
 | 0, l, p, h => by rw [zao, List.mem_singleton] at h; subst h; exact Nat.le_refl _
 | n + 1, l, p, h => by
  rcases zc4 (z:=z) l with ⟨h1, h2⟩ | ⟨b, h1, h2, h3⟩
  ·rw [zao, h1] at h
   have h : p ∈ [l] := h
   rw [List.mem_singleton] at h; subst h; exact Nat.le_refl _
  ·rw [zao, h1] at h
   have h : p ∈ l.takeWhile (· != z) :: zao z n b := h
   have hl := congrArg List.length h2
   rw [List.length_append, List.length_cons] at hl
   rcases List.mem_cons.mp h with h | h
   ·subst h; omega
   ·have := zed h; omega
theorem zjz (Z : Tx K mg ad0) : FnOk P w K mg base CX0 2 ad0.f_told_rows ad0.d_told_rows ["text"] (SpO K preL zid) := by
 have G_is_passed_by := zf3 (P:=P) (w:=w) (base:=base) Z
 refine Z.F_told_rows.ok zfa (fun vs H Q E h => ze7 (n:=1) (by rintro ds ⟨c, rfl, _⟩; rfl) h) (fun cdv A outer s H vs Q E hr h => ⟨_, (zah (zbq (i:=1) zfa.nd rfl (Or.inl rfl) (zfn F.plainAttrs_str F.slot_str_split F.type_str_split zti (pv 0) (zaa zap zae)))
   (zaq (zbj (zu3 rfl (LcOk.of (Nx:=(["text", "rows"] : List Str)) (sc:=zac zbc) (N':=(["number", "row"] : List Str)) (nt:=2) (cs:=[]) rfl rfl (by decide +kernel)) (zr3 (by rfl) Z.z_enumerate (zaa (pv 1) zae) zag) (fun _ _ _ _ => (show PG _ _ (gTup K 2 _) from zqq rfl (zdy (zcw (i:=0) (show List.Nodup (["number", "row"] : List Str) by decide +kernel) rfl (Or.inl rfl)) (zdy (zcw (i:=1) (show List.Nodup (["number", "row"] : List Str) by decide +kernel) rfl (Or.inl rfl)) zlw)))) (fun _ _ _ _ => (zsv (zht (zd4 (zbd G_is_passed_by (hr.mono (by decide)) (by rfl) Z.M_is_passed_by Z.F_is_passed_by.kp Z.B_is_passed_by .nil zcx (zaa (pv 1) zae)))))) (fun _ _ _ _ => (zgq (zaa (pv 0) (zaa (pv 1) zae)))))))), ?_⟩)
 refine zqh h (by rw [ze7 (n:=1) (by rintro ds ⟨c, rfl, _⟩; rfl) h]; decide) fun G ds hp rt => ?_
 obtain ⟨l, rfl, hl⟩ := hp
 refine zat (zcp (zol (zad rfl).b (za5 (l:=[10]) (by decide +kernel) (by decide)).b (by rw [sizeLine_eq]; omega)) fun p => zcn (i:=1) rfl ?_)
 ((try dsimp only); refine zbh ?_)
 have hsl : (zct 10 l).length <= l.length + 2 := zcd 10 _ l
 refine zl0 (ds:=(zcm l).map (numD l)) ?_ rt
 have hn : ((zct 10 l).map D.str).length = (zct 10 l).length := List.length_map ..
 unfold zcm
 rw [<- hn]
 refine ziw (fun i => !zdn (lnAt l i)) (numD l) (zqz (ds:=(zct 10 l).map D.str) (zad rfl)) (zrz (zd2 (zdk (by decide)) (zd2 (zdk (by decide)) zlj))) (by decide) (by rw [List.length_map, sizeLine_eq]; omega) fun i hi => ?_
 rw [List.length_map] at hi
 have eg : ((zct 10 l).map D.str).getD i .non = .str (lnAt l i) := by
  unfold lnAt
  rw [List.getD_eq_getElem?_getD, List.getD_eq_getElem?_getD, List.getElem?_map, List.getElem?_eq_getElem hi]; rfl
 have hm : lnAt l i ∈ zct 10 l := by
  unfold lnAt
  rw [List.getD_eq_getElem?_getD, List.getElem?_eq_getElem hi]; exact List.getElem_mem _
 rw [eg]
 exact ⟨_, zkk rfl (zb6 zb4 (zb6 zb4 zf5)), zez (zg9 (zco (pre:=preL) (res:=zq4) (zab (zad rfl) zaf) ⟨_, rfl, by have := zed hm; omega⟩)), fun _ => zgf (zab (zad rfl) (zab (zad rfl) zaf)) (small (by simp))⟩
theorem zg7 (Z : Tx K mg ad0) : FnOkH P w K mg base CX0 1 ad0.f_NoRow_init ad0.d_NoRow_init ["self", "row"] (zjm ad0.c_NoRow "row") := by
 refine Z.F_NoRow_init.okH zeh (fun vs H Q E h => by obtain ⟨e, n, rfl, _⟩ := h; rfl) (fun cdv A outer s H vs Q E hr h => ⟨_, (zah (zeb (zhn (by rfl) Z.M_FolkError Z.CB_FolkError (zaa (pv 0) (zaa (zm2 (pv 1)) zae))))
   (zaq (zkh (pv 0) (pv 1) (by rfl)))), ?_⟩)
 exact zku Z.XM_NoRow.cls Z.XS_NoRow_row (by decide +kernel) (by decide +kernel) h
noncomputable def fofF (l : List Nat) : Fct := unF ((fof l).getD .non)
theorem zwd {l : List Nat} (h : fof l ≠ none) : (fof l).getD .non = encF (fofF l) := by
 unfold fofF
 cases e : fof l with
 | none => exact absurd e h
 | some d =>
  show d = encF (unF d)
  unfold fof at e
  split at e
  ·split at e
   ·split at e
    ·cases e; rfl
    ·split at e
     ·cases e; rfl
     ·cases e
   ·cases e
  ·cases e
noncomputable def zr7 (ds : List D) : Prop := ∃ (n : Int) (l : List Nat), ds = [.int n, .str l] /\ 0 <= n /\ n < 1000000 /\ l.length <= 1000
noncomputable def zsm (ds : List D) : Prop := ∃ (n : Int) (l : List Nat), ds = [.int n, .str l] /\ fof l = none
noncomputable def zwc : List D -> D
 | [.int _, .str l] => (fof l).getD .non
 | _ => .non
noncomputable def zyh : List D -> D
 | [.int n, .str _] => .int n
 | _ => .non
theorem zfl (Z : Tx K mg ad0) : FnOk P w K mg base (CX2 P w) 4 ad0.f_numbered_fact ad0.d_numbered_fact ["number", "row"] (SpX K ad0.c_NoRow "row" zr7 zsm zwc zyh) := by
 have G_fact_of := zn5 (P:=P) (w:=w) (base:=base) Z
 have G_NoRow_init_H := zg7 (P:=P) (w:=w) (base:=base) Z
 refine Z.F_numbered_fact.okX2 zfq (fun vs H Q E h => ze4 (n:=2) (by rintro ds ⟨n, l, rfl, _⟩; rfl) h) (fun cdv A outer s H vs Q E hr h => ⟨_, (zaq (zlf G_fact_of (hr.mono (by decide)) (by rfl) Z.M_fact_of Z.F_fact_of.kp Z.B_fact_of (zaa (pv 1) zae) (by rfl) Z.M_NoRow (fun _ => (zom Z.XM_NoRow G_NoRow_init_H ((hr.mark _).mono (by decide)) (by rfl) Z.M_NoRow Z.B_NoRow_init zcx (zaa (pv 0) zae) (by decide))))), ?_⟩)
 refine zrv h (by rw [ze4 (n:=2) (by rintro ds ⟨n, l, rfl, _⟩; rfl) h]; decide) fun G ds hp rt rx => ?_
 obtain ⟨n, l, rfl, h0, h1, hl⟩ := hp
 exact zlq (pre:=preS) (bad:=zxn) (res:=ztz) (zab (zad rfl) zaf) ⟨l, rfl, hl⟩ (fun nb => rt (by rintro ⟨_, _, e1, e2⟩; cases e1; exact nb e2)) Z.H_NoRow_NoRow Z.XM_NoRow.cls (zab (zad rfl) zaf) h0 h1 (fun hb => rx ⟨n, l, rfl, hb⟩)
noncomputable def zqf (ds : List D) : Prop := ∃ tx, ds = [.str tx] /\ tx.length <= 100000 /\ (zcm tx).length <= 63 /\ ∀ i ∈ zcm tx, (lnAt tx i).length <= 1000
noncomputable def znh (ds : List D) : Prop := ∃ tx, ds = [.str tx] /\ ∃ i ∈ zcm tx, fof (lnAt tx i) = none
noncomputable def zc0 (tx : List Nat) : List Fct := (zcm tx).map fun i => fofF (lnAt tx i)
noncomputable def zv0 : List D -> D
 | [.str tx] => .lst ((mkB (dedF (zc0 tx))).map encF)
 | _ => .non
noncomputable def frsB (tx : List Nat) : Nat := ((zcm tx).find? fun i => (fof (lnAt tx i)).isNone).getD 0
noncomputable def ztq : List D -> D
 | [.str tx] => .int ((frsB tx + 1 : Nat) : Int)
 | _ => .non
theorem ze8 (Z : Tx K mg ad0) : FnOk P w K mg base (CX2 P w) 5 ad0.f_read_book ad0.d_read_book ["text"] (SpX K ad0.c_NoRow "row" zqf znh zv0 ztq) := by
 have G_told_rows : FnOk P w K mg base CX0 4 ad0.f_told_rows ad0.d_told_rows ["text"] (SpO K preL zid) := (zjz Z).mono (by decide)
 have G_tidy : FnOk P w K mg base CX0 4 ad0.f_tidy ad0.d_tidy ["facts"] (SpO K zls zgx) := (zvp Z).mono (by decide)
 have G_numbered_fact := zfl (P:=P) (w:=w) (base:=base) Z
 refine Z.F_read_book.okX2 zkf (fun vs H Q E h => ze4 (n:=1) (by rintro ds ⟨l, rfl, _⟩; rfl) h) (fun cdv A outer s H vs Q E hr h => ⟨_, (zaq (zbj (zbd G_tidy (hr.mono (by decide)) (by rfl) Z.M_tidy Z.F_tidy.kp Z.B_tidy .nil zcx (zaa (zxx rfl (LcOk.of (Nx:=(["text"] : List Str)) (sc:=zac zbb) (N':=(["number", "row"] : List Str)) (nt:=2) (cs:=[]) rfl rfl (by decide +kernel)) (zpw (PE.nox (zbd G_told_rows (hr.mono (by decide)) (by rfl) Z.M_told_rows Z.F_told_rows.kp Z.B_told_rows .nil zcx (zaa (pv 0) zae)))) (fun _ _ _ _ => (show PG _ _ (gTup K 2 _) from zqq rfl (zdy (zcw (i:=0) (show List.Nodup (["number", "row"] : List Str) by decide +kernel) rfl (Or.inl rfl)) (zdy (zcw (i:=1) (show List.Nodup (["number", "row"] : List Str) by decide +kernel) rfl (Or.inl rfl)) zlw)))) (fun _ _ _ _ => zja) (fun _ _ _ _ => (zbd G_numbered_fact (hr.mono (by decide)) (by rfl) Z.M_numbered_fact Z.F_numbered_fact.kp Z.B_numbered_fact .nil zwr (zaa (pv 0) (zaa (pv 1) zae)))) outC) zae)))), ?_⟩)
 refine zrv h (by rw [ze4 (n:=1) (by rintro ds ⟨l, rfl, _⟩; rfl) h]; decide) fun G ds hp rt rx => ?_
 obtain ⟨tx, rfl, hl, htn, hln⟩ := hp
 have hsl : (zct 10 tx).length <= tx.length + 2 := zcd 10 _ tx
 have hmem : ∀ i ∈ zcm tx, i < 200000 /\ (lnAt tx i).length <= 1000 := fun i hi => by
  refine ⟨?_, hln i hi⟩
  unfold zcm at hi
  have h1 := List.mem_range.mp (List.mem_filter.mp hi).1
  omega
 have src : ∀ {L0 : Hp} {ss : List Sl} {E1 : XK}, ss[0]? = some (.d (.str tx)) -> EvL K G H L0 ss (zil (SpO K preL zid) [] E1 (zbe (tVar 0) tNil)) ((zcm tx).map (numD tx)) := fun e => EvO.l (zel (pre:=preL) (res:=zid) (zab (zad e) zaf) ⟨tx, rfl, by omega⟩)
 by_cases hb : ∃ i ∈ zcm tx, fof (lnAt tx i) = none
 ·have rx := rx ⟨tx, rfl, hb⟩
  obtain ⟨z, hz⟩ : ∃ z, (zcm tx).find? (fun i => (fof (lnAt tx i)).isNone) = some z := by
   cases e : (zcm tx).find? (fun i => (fof (lnAt tx i)).isNone) with
   | some z => exact ⟨z, rfl⟩
   | none =>
    obtain ⟨i, h1, h2⟩ := hb
    have := List.find?_eq_none.mp e i h1
    rw [h2] at this; simp at this
  have ez : frsB tx = z := by unfold frsB; rw [hz]; rfl
  have rx : RtX2 K G H E ad0.c_NoRow "row" (.int ((z + 1 : Nat) : Int)) := by rw [<- ez]; exact rx
  obtain ⟨hbz, kz, hkz, ekz, hjz⟩ := List.find?_eq_some_iff_getElem.mp hz
  have hbad : fof (lnAt tx z) = none := Option.isNone_iff_eq_none.mp hbz
  have hat : (zcm tx)[kz]? = some z := by rw [List.getElem?_eq_getElem hkz, ekz]
  have hm := hmem _ (List.mem_of_getElem? hat)
  refine zvk (ztb (zuv (zcm tx) (numD tx) (fun i => (fof (lnAt tx i)).getD .non) kz _ hat (src rfl) (zrz (zd2 (zdk (by decide)) (zd2 (zdk (by decide)) zlj))) (by decide) (by rw [sizeLine_eq]; omega) (fun i x hi hx => ?_) ?_))
  ·have hxm := hmem x (List.mem_of_getElem? hx)
   have hg : fof (lnAt tx x) ≠ none := fun z => by
    have h := hjz i hi
    obtain ⟨hl1, e1⟩ := List.getElem?_eq_some_iff.mp hx
    rw [e1, z] at h
    cases h
   exact ⟨_, zkk rfl (zb6 zb4 (zb6 zb4 zf5)), zga (pre:=zr7) (bad:=zsm) (res:=zwc) (zab (zad rfl) (zab (zad rfl) zaf)) ⟨_, _, rfl, by omega, by omega, hxm.2⟩ (by rintro ⟨_, _, e1, e2⟩; cases e1; exact hg e2)⟩
  ·exact ⟨_, zkk rfl (zb6 zb4 (zb6 zb4 zf5)), znu (pre:=zr7) (bad:=zsm) (err:=zyh) (zab (zad rfl) (zab (zad rfl) zaf)) ⟨_, _, rfl, by omega, by omega, hm.2⟩ ⟨_, _, rfl, hbad⟩ rx⟩
 ·have rt := rt (by rintro ⟨_, e1, e2⟩; cases e1; exact hb e2)
  have hfl : (zc0 tx).length = (zcm tx).length := List.length_map ..
  have hdl := zsy (zc0 tx)
  have ef : (zcm tx).map (fun i => (fof (lnAt tx i)).getD .non) = (zc0 tx).map encF := by
   unfold zc0
   rw [List.map_map]
   exact List.map_congr_left fun i hi => zwd fun z => hb ⟨i, hi, z⟩
  have rt : RtD K G H Q (.lst (zgx [bkD (zc0 tx)])) := by rw [zgp]; exact rt
  refine zb1 (EvO.ev (zel (pre:=zls) (res:=zgx) (zab (EvO.ev (ds:=(zc0 tx).map encF) (by
   rw [<- ef]
   refine zu2 (zcm tx) (numD tx) (fun i => (fof (lnAt tx i)).getD .non) (src rfl) (zrz (zd2 (zdk (by decide)) (zd2 (zdk (by decide)) zlj))) (by decide) (by rw [sizeLine_eq]; omega) fun i hi => ?_
   have hxm := hmem i hi
   exact ⟨_, zkk rfl (zb6 zb4 (zb6 zb4 zf5)), zga (pre:=zr7) (bad:=zsm) (res:=zwc) (zab (zad rfl) (zab (zad rfl) zaf)) ⟨_, _, rfl, by omega, by omega, hxm.2⟩ (by rintro ⟨_, _, e1, e2⟩; cases e1; exact hb ⟨i, hi, e2⟩)⟩)) zaf) ⟨zc0 tx, rfl, by omega, by omega⟩)) rt
noncomputable abbrev rCatT : R2 := fun x y H Q => ∃ i j, x = .str i /\ y = .str j /\ i.length + j.length <= sizeLine /\ Q (.str (i ++ j)) H
noncomputable def preI (ds : List D) : Prop := ∃ c : Int, ds = [.int c]
theorem zxc {c : List Nat} (h : zde c) : 32 ∉ c := fun z => zuo (h.2.2 _ z)
theorem zlu : ∀ f ∈ flds ++ prs, 32 ∉ f /\ 10 ∉ f /\ f.length <= 6 := by decide +kernel
theorem zmg {c f t : List Nat} (h : zs5 (c, f, t)) : fof (((c ++ [32] ++ f) ++ [32]) ++ t) = some (zlb (c, f, t)) := by
 obtain ⟨hc, hft⟩ := h
 dsimp only at hc hft
 have hfm : f ∈ flds ++ prs := by
  rcases hft with h | h
  ·exact List.mem_append_left _ h.1
  ·exact List.mem_append_right _ h.1
 have sp := zln (z:=32) (c:=t) (zxc hc) (zlu f hfm).1
 have er : ((c ++ [32] ++ f) ++ [32]) ++ t = c ++ 32 :: (f ++ 32 :: t) := by simp
 rw [er]
 unfold fof
 rw [sp]
 show (if zea c = true then _ else _) = _
 rw [if_pos (zkb hc)]
 rcases hft with ⟨h1, h2⟩ | ⟨h1, h2, h3⟩
 ·rw [if_pos ⟨h1, zp1 h2⟩]
  unfold zlb; rw [if_neg (zkz f h1)]
 ·rw [if_neg fun z => zpf f h1 z.1, if_pos ⟨h1, zkb h2, h3⟩]
  unfold zlb; rw [if_pos h1]; rfl
theorem zka (ws : List (List Nat)) (x : Int) {n : Int} (hn : (ws.length : Int) = n) (h0 : 0 < n) : ∃ l, l ∈ ws /\ l = ws.getD (x % n).toNat [] /\ atI (ws.map D.str) (x % n) = some (.str l) := by
 have h1 := Int.emod_nonneg x (show n ≠ 0 by omega)
 have h2 := Int.emod_lt_of_pos x h0
 have h := zpd (ws.map D.str) (.str []) x (n:=n) (by rw [List.length_map]; exact hn) h0
 have hc : (x % n).toNat < ws.length := by omega
 refine ⟨ws[(x % n).toNat], List.getElem_mem _, by rw [List.getD_eq_getElem?_getD, List.getElem?_eq_getElem hc]; rfl, ?_⟩
 rw [h, List.getD_eq_getElem?_getD, List.getElem?_map, List.getElem?_eq_getElem hc]; rfl
noncomputable def optF : Option Fct -> D
 | none => .non
 | some f => encF f
noncomputable def LnR (l : List Nat) (o : Option Fct) : Prop := 10 ∉ l /\ l.length <= 100 /\ (o = none -> zdn l = true) /\ ∀ f, o = some f -> zdn l = false /\ fof l = some (encF f)
noncomputable def relR (_ : List D) (r : D) : Prop := ∃ l o, r = .tup [.str l, optF o] /\ LnR l o
theorem zns {c : Nat} {t : List Nat} (h : c ≠ 32) : zcy [32].contains (c :: t) ≠ [] := by
 unfold zcy
 have e : (c :: t).dropWhile [32].contains = c :: t := by
  rw [List.dropWhile_cons]
  simp [h]
 rw [e]
 intro z
 have z := List.reverse_eq_nil_iff.mp z
 have : c ∈ (c :: t).reverse := by simp
 have hs : ∀ l : List Nat, l.dropWhile [32].contains = [] -> ∀ x ∈ l, x = 32 := fun l => by
  induction l with
  | nil => intro _ x hx; cases hx
  | cons a l ih =>
   intro hl x hx
   rw [List.dropWhile_cons] at hl
   split at hl
   ·rename_i ha
    rcases List.mem_cons.mp hx with rfl | hx
    ·simpa using ha
    ·exact ih hl x hx
   ·cases hl
 exact h (hs _ z c this)
theorem zko : ∀ c ∈ lets, c ≠ 32 /\ c ≠ 35 /\ c ≠ 10 := by decide +kernel
theorem zm0 {c m : List Nat} (h : zde c) : zdn (c ++ m) = false := by
 obtain ⟨h1, _, h3⟩ := h
 cases c with
 | nil => simp at h1
 | cons x c =>
  have hx := zko x (h3 x List.mem_cons_self)
  unfold zdn
  rw [List.cons_append, decide_eq_false (zns hx.1)]
  simp [hx.2.1]
theorem zqt {c : List Nat} (h : zde c) : 10 ∉ c := fun z => (zko 10 (h.2.2 10 z)).2.2 rfl
theorem zhx {l : List Nat} {a b : Nat} (h1 : l.head? = some a) (h2 : l.getLast? = some b) (ha : a ≠ 32) (hb : b ≠ 32) : l = zcy [32].contains l := by
 unfold zcy
 have e1 : l.dropWhile [32].contains = l := by
  cases l with
  | nil => rfl
  | cons x l => simp at h1; subst h1; rw [List.dropWhile_cons]; simp [ha]
 have e2 : l.reverse.dropWhile [32].contains = l.reverse := by
  rw [List.getLast?_eq_head?_reverse] at h2
  cases hr : l.reverse with
  | nil => rfl
  | cons x r => rw [hr] at h2; simp at h2; subst h2; rw [List.dropWhile_cons]; simp [hb]
 rw [e1, e2, List.reverse_reverse]
noncomputable def sfx : List (List Nat) := [[], [32, 65], [45, 98], [32, 32, 126]]
theorem zue : ∀ s ∈ sfx, s.length <= 3 /\ (∀ c ∈ s, c ∈ zoi) /\ (s = [] \/ ∃ b, s.getLast? = some b /\ b ≠ 32) := by
 intro s hs
 simp only [sfx, List.mem_cons, List.not_mem_nil, or_false] at hs
 rcases hs with rfl | rfl | rfl | rfl
 ·exact ⟨by decide, by decide +kernel, .inl rfl⟩
 ·exact ⟨by decide, by decide +kernel, .inr ⟨65, rfl, by decide⟩⟩
 ·exact ⟨by decide, by decide +kernel, .inr ⟨98, rfl, by decide⟩⟩
 ·exact ⟨by decide, by decide +kernel, .inr ⟨126, rfl, by decide⟩⟩
theorem zs1 : ∀ c, 48 <= c -> c <= 57 -> c ∈ zoi := fun c h1 h2 => (show ∀ c ∈ (List.range 10).map (· + 48), c ∈ zoi by decide +kernel) c (List.mem_map.mpr ⟨c - 48, List.mem_range.mpr (by omega), by omega⟩)
theorem zxz (n : Nat) : numL n ≠ [] := fun z => by
 unfold numL at z
 have := List.map_eq_nil_iff.mp z
 exact absurd this (by exact Nat.toDigits_ne_nil)
theorem zts {n : Nat} (hn : n < 1000) {s : List Nat} (hs : s ∈ sfx) : zp2 (numL n ++ s) /\ 10 ∉ numL n ++ s /\ (numL n ++ s).length <= 20 := by
 obtain ⟨s1, s2, s3⟩ := zue s hs
 have hl : (numL n).length <= 10 := ztn (Nat.lt_of_lt_of_le hn (by decide))
 have hd := zgl n
 have hne := zxz n
 have hsg : ∀ c ∈ numL n ++ s, c ∈ zoi := fun c hc => by
  rcases List.mem_append.mp hc with h | h
  ·exact zs1 c (hd c h).1 (hd c h).2
  ·exact s2 c h
 refine ⟨⟨?_, ?_, ?_, hsg⟩, fun z => absurd (hsg 10 z) (by decide +kernel), ?_⟩
 ·rw [List.length_append]; have := List.length_pos_iff.mpr hne; omega
 ·rw [List.length_append]; omega
 ·obtain ⟨a, ha⟩ : ∃ a, (numL n).head? = some a := by
   cases e : numL n with
   | nil => exact absurd e hne
   | cons a _ => exact ⟨a, rfl⟩
  have ha' := hd a (List.mem_of_mem_head? ha)
  obtain ⟨z, hz⟩ : ∃ z, (numL n).getLast? = some z := by
   cases e : (numL n).getLast? with
   | none => exact absurd (List.getLast?_eq_none_iff.mp e) hne
   | some z => exact ⟨z, rfl⟩
  have hz' := hd z (List.mem_of_getLast? hz)
  rcases s3 with rfl | ⟨b, hb, hb2⟩
  ·rw [List.append_nil]; exact zhx ha hz (by omega) (by omega)
  ·exact zhx (a:=a) (b:=b) (by rw [List.head?_append, ha]; rfl) (by rw [List.getLast?_append, hb]; rfl) (by omega) hb2
 ·rw [List.length_append]; omega
noncomputable def zl7 : List (List Nat) := [[], [32], [35], ("# bo name Bo" : Str).cps.toList, [32, 32, 32, 32, 32]]
theorem ztv : ∀ l ∈ zl7, 10 ∉ l /\ l.length <= 100 /\ zdn l = true := by decide +kernel
theorem zr0 (a b : List Nat) : minL a b = minL b a /\ maxL a b = maxL b a := by
 unfold minL maxL
 by_cases h1 : b < a
 ·rw [if_pos h1, if_neg (List.lt_asymm h1), if_neg (List.lt_asymm h1), if_pos h1]; exact ⟨rfl, rfl⟩
 ·by_cases h2 : a < b
  ·rw [if_neg h1, if_pos h2, if_pos h2, if_neg h1]; exact ⟨rfl, rfl⟩
  ·have e : a = b := List.le_antisymm (List.not_lt.mp h1) (List.not_lt.mp h2)
   subst e; exact ⟨rfl, rfl⟩
theorem zj8 (Z : Tx K mg ad0) : FnOk P w K mg base CX0 1 ad0.f_law_whole ad0.d_law_whole ["_law_found"] (SpD K (fun ds => ∃ c : Int, ds = [.int c]) fun _ => .bl true) := by
 refine Z.F_law_whole.ok zjq (fun vs H Q E h => zbi (n:=1) (by rintro ds ⟨c, rfl⟩; rfl) h) (fun cdv A outer s H vs Q E hr h => ⟨_, (zaq (zbj (zji (zau zfp (by rfl) Z.z_isinstance boot_isinstance (zaa (pv 0) (zaa (zk4 (v:=.ty "int") (by rfl) Z.z_int boot_int rfl) zae))) (zhw (zwn (zau zex (by rfl) Z.z_isinstance boot_isinstance (zaa (pv 0) (zaa (zk4 (v:=.ty "bool") (by rfl) Z.z_bool boot_bool rfl) zae)))))))), ?_⟩)
 refine zeu h (by rw [zbi (n:=1) (by rintro ds ⟨c, rfl⟩; rfl) h]; decide) fun G ds hp rt => ?_
 obtain ⟨c, rfl⟩ := hp
 exact zb1 (zkm (zx6 (zad rfl).b) fun _ => zxe (zvs (zad rfl).b)) rt
theorem zoc (Z : Tx K mg ad0) : FnOk P w K mg base CX0 2 ad0.f_law_row ad0.d_law_row ["_law_cell"] (SpRD K preI relR) := by
 have G_law_stream := zej (P:=P) (w:=w) (base:=base) Z
 refine Z.F_law_row.ok zbt (fun vs H Q E h => zmo (n:=1) (by rintro ds ⟨c, rfl⟩; rfl) h) (fun cdv A outer s H vs Q E hr h => ⟨_, (zah (zbq (i:=1) zbt.nd rfl (Or.inl rfl) zap)
   (zah (zbq (i:=2) zbt.nd rfl (Or.inl rfl) (zbd G_law_stream (hr.mono (by decide)) (by rfl) Z.M_law_stream Z.F_law_stream.kp Z.B_law_stream .nil zcx (zaa (pv 0) (zaa zag zae))))
   (zah (zfk (zcv znr (za3 zb9 (zbk (show IxR _ (rIxL K) from zar) (pv 2) zag (fun _ _ => rfl)) zag) zag (zdf _)) (zaq (zbj (zgq (zaa (zbk (show IxR _ (rIxL K) from zar) (zep (zaa zap (zaa zap (zaa zap (zaa zap (zaa zap zae)))))) (za3 zb9 (zbk (show IxR _ (rIxL K) from zar) (pv 2) zag (fun _ _ => rfl)) zag) (fun _ _ => rfl)) (zaa zrn zae))))) zcg)
   (zah (zbq (i:=3) zbt.nd rfl (Or.inl rfl) (za3 za4 (zbk zl8 (pv 1) (za3 zb9 (zbk (show IxR _ (rIxL K) from zar) (pv 2) zag (fun _ _ => rfl)) zag) (fun _ _ => rfl)) (zbk zl8 (pv 1) (za3 zb9 (za3 zf7 (zbk (show IxR _ (rIxL K) from zar) (pv 2) zag (fun _ _ => rfl)) zag) zag) (fun _ _ => rfl))))
   (zah (zbq (i:=4) zbt.nd rfl (Or.inl rfl) (za3 za4 (za3 za4 (zbk zl8 (pv 1) (za3 zb9 (zbk (show IxR _ (rIxL K) from zar) (pv 2) zag (fun _ _ => rfl)) zag) (fun _ _ => rfl)) (zbk zl8 (pv 1) (za3 zb9 (za3 zf7 (zbk (show IxR _ (rIxL K) from zar) (pv 2) zag (fun _ _ => rfl)) zag) zag) (fun _ _ => rfl))) zap))
   (zah (zfk (zcv znr (za3 zb9 (zbk (show IxR _ (rIxL K) from zar) (pv 2) zag (fun _ _ => rfl)) zag) zag (zdf _)) (zah (zbq (i:=5) zbt.nd rfl (Or.inl rfl) (zbk (show IxR _ (rIxL K) from zar) (zep (zaa zap (zaa zap zae))) (za3 zb9 (za3 zf7 (zbk (show IxR _ (rIxL K) from zar) (pv 2) zag (fun _ _ => rfl)) zag) zag) (fun _ _ => rfl)))
   (zaq (zbj (zgq (zaa (za3 za4 (za3 za4 (za3 za4 (za3 za4 (pv 4) zap) (pv 5)) zap) (pv 3)) (zaa (zgq (zaa (zau (zjf rfl) (by rfl) Z.z_min boot_min (zaa (pv 3) (zaa (pv 4) zae))) (zaa (pv 5) (zaa (zau (zj3 rfl) (by rfl) Z.z_max boot_max (zaa (pv 3) (zaa (pv 4) zae))) zae)))) zae)))))) zcg)
   (zah (zbq (i:=5) zbt.nd rfl (Or.inl rfl) (zbk (show IxR _ (rIxL K) from zar) (zep (zaa zap (zaa zap (zaa zap (zaa zap (zaa zap zae)))))) (za3 zb9 (za3 zf7 (zbk (show IxR _ (rIxL K) from zar) (pv 2) zag (fun _ _ => rfl)) zag) zag) (fun _ _ => rfl)))
   (zah (zbq (i:=6) zbt.nd rfl (Or.inl rfl) (za3 za4 (zeq (show zca _ _ zvj from zrp) (by rfl) Z.z_str boot_str (zaa (za3 zb9 (zbk (show IxR _ (rIxL K) from zar) (pv 2) zag (fun _ _ => rfl)) zag) zae)) (zbk (show IxR _ (rIxL K) from zar) (zep (zaa zap (zaa zap (zaa zap (zaa zap zae))))) (za3 zb9 (za3 zf7 (zbk (show IxR _ (rIxL K) from zar) (pv 2) zag (fun _ _ => rfl)) zag) zag) (fun _ _ => rfl))))
   (zaq (zbj (zgq (zaa (za3 za4 (za3 za4 (za3 za4 (za3 za4 (pv 3) zap) (pv 5)) zap) (pv 6)) (zaa (zgq (zaa (pv 3) (zaa (pv 5) (zaa (pv 6) zae)))) zae))))))))))))), ?_⟩)
 refine zux h (by rw [zmo (n:=1) (by rintro ds ⟨c, rfl⟩; rfl) h]; decide) fun G ds hp rt => ?_
 obtain ⟨c, rfl⟩ := hp
 refine zat (zd7 (za5 (l:=lets) (by decide +kernel) zru) ?_)
 ((try dsimp only); refine zbh ?_)
 refine zat (zcp (ds:=zbu c 3) (by
  rw [show zbu c 3 = zce [.int c, .int 3] from rfl]
  exact zel (pre:=zeo) (res:=zce) (zab (zad rfl) (zab zai zaf)) ⟨c, 3, rfl, by decide, by decide⟩) fun pm => zcn (i:=2) rfl ?_)
 ((try dsimp only); refine zbh ?_)
 have dr : ∀ {L0 : Hp} {ss : List Sl} (i : Int) (k : Nat), i = (k : Int) -> k < 3 -> ss[2]? = some (.d (.lst (zbu c 3))) -> Ev K G H L0 ss (tOp (rIxL K) (tVar 2) (tC (.int i))) (.int (num c (k + 2))) := fun i k e hk es => by
  subst e
  exact zcf (zad es).l zai.b (zjr c 3 k hk)
 obtain ⟨q, hq, _, eq⟩ := zka zl7 (num c 3) (n:=5) rfl (by decide)
 have hq := ztv q hq
 refine zat (zei (zbn (zna (zcc (dr 0 0 rfl (by decide) rfl).b zai.b (by decide)).b zai.b)) (fun _ => ?_) (fun _ => zb5 ?_))
 ·refine zb1 (d:=.tup [.str q, optF none]) (zgf (zab (zcf (EvO.l (zc9 (ds:=zl7.map D.str) (zab (za5 (by decide +kernel) (by decide +kernel)) (zab (za5 (by decide +kernel) (by decide +kernel)) (zab (za5 (by decide +kernel) (by decide +kernel)) (zab (za5 (by decide +kernel) (by decide +kernel)) (zab (za5 (by decide +kernel) (by decide +kernel)) zaf))))) (small (by simp [zl7])))) (zcc (dr 1 1 rfl (by decide) rfl).b zai.b (by decide)).b eq) (zab zt9 zaf)) (small (by simp))) (rt _ ⟨q, none, rfl, hq.1, hq.2.1, (fun _ => hq.2.2), fun f z => by cases z⟩)
 ((try dsimp only); refine zbh ?_)
 have hN : ∀ x y : Int, zde [zbm x, zbm y] := fun x y => ⟨by simp, by simp, fun z hz => by
  simp only [List.mem_cons, List.not_mem_nil, or_false] at hz
  rcases hz with rfl | rfl <;> exact ze2 _⟩
 have hX : ∀ x y : Int, zde ([zbm x, zbm y] ++ [120]) := fun x y => ⟨by simp, by simp, fun z hz => by
  simp only [List.mem_append, List.mem_cons, List.not_mem_nil, or_false] at hz
  rcases hz with (rfl | rfl) | rfl
  ·exact ze2 _
  ·exact ze2 _
  ·decide +kernel⟩
 have hz26 : lets.length <= sizeLine := small (by rw [zih]; decide)
 refine zat (zd7 (d:=.str ([zbm (num c 3)] ++ [zbm (num c 3 / 26)])) (zda (zmc (zad rfl).b (zcc (dr 1 1 rfl (by decide) rfl).b zai.b (by decide)).b hz26 (zib _)).b (zmc (zad rfl).b (zcc (zgg (dr 1 1 rfl (by decide) rfl).b zai.b ⟨by decide, by decide⟩).b zai.b (by decide)).b hz26 (zib _)).b (small (by simp))) ?_)
 ((try dsimp only); refine zbh ?_)
 refine zat (zd7 (d:=.str (([zbm (num c 4)] ++ [zbm (num c 4 / 26)]) ++ [120])) (zda (zda (zmc (zad rfl).b (zcc (dr 2 2 rfl (by decide) rfl).b zai.b (by decide)).b hz26 (zib _)).b (zmc (zad rfl).b (zcc (zgg (dr 2 2 rfl (by decide) rfl).b zai.b ⟨by decide, by decide⟩).b zai.b (by decide)).b hz26 (zib _)).b (small (by simp))).b (za5 (l:=[120]) (by decide +kernel) (by decide)).b (small (by simp))) ?_)
 ((try dsimp only); refine zbh ?_)
 have hcN : zde ([zbm (num c 3)] ++ [zbm (num c 3 / 26)]) := hN _ _
 have hcl : ([zbm (num c 3)] ++ [zbm (num c 3 / 26)]).length = 2 := rfl
 have hoN : zde (([zbm (num c 4)] ++ [zbm (num c 4 / 26)]) ++ [120]) := hX _ _
 have hol : (([zbm (num c 4)] ++ [zbm (num c 4 / 26)]) ++ [120]).length = 3 := rfl
 generalize [zbm (num c 3)] ++ [zbm (num c 3 / 26)] = cd at hcN hcl ⊢
 generalize ([zbm (num c 4)] ++ [zbm (num c 4 / 26)]) ++ [120] = ot at hoN hol ⊢
 have z32 : ∀ {L0 : Hp} {ss : List Sl}, EvB K G H L0 ss (tC (.str " ")) (.str [32]) := (za5 (l:=[32]) (by decide +kernel) (by decide)).b
 have row : ∀ {L0 : Hp} {ss : List Sl} {a b d : List Nat} {i j k : Nat}, ss[i]? = some (.d (.str a)) -> ss[j]? = some (.d (.str b)) -> ss[k]? = some (.d (.str d)) -> a.length <= 20 -> b.length <= 20 -> d.length <= 20 -> Ev K G H L0 ss (tOp rCatT (tOp rCatT (tOp rCatT (tOp rCatT (tVar i) (tC (.str " "))) (tVar j)) (tC (.str " "))) (tVar k)) (.str ((((a ++ [32]) ++ b) ++ [32]) ++ d)) := fun e1 e2 e3 l1 l2 l3 => zda (zda (zda (zda (zad e1).b z32 (small (by simp; omega))).b (zad e2).b (small (by simp; omega))).b z32 (small (by simp; omega))).b (zad e3).b (small (by simp; omega))
 have ten : ∀ {a b d : List Nat}, 10 ∉ a -> 10 ∉ b -> 10 ∉ d -> 10 ∉ ((((a ++ [32]) ++ b) ++ [32]) ++ d) := fun h1 h2 h3 z => by
  simp only [List.mem_append, List.mem_cons, List.not_mem_nil, or_false] at z
  rcases z with (((z | z) | z) | z) | z
  ·exact h1 z
  ·cases z
  ·exact h2 z
  ·cases z
  ·exact h3 z
 refine zat (zei (zbn (zna (zcc (dr 0 0 rfl (by decide) rfl).b zai.b (by decide)).b zai.b)) (fun _ => ?_) (fun _ => zb5 ?_))
 ·obtain ⟨f, hf, _, ef⟩ := zka prs (num c 2 / 5) (n:=2) rfl (by decide)
  obtain ⟨_, f10, fl⟩ := zlu f (List.mem_append_right _ hf)
  refine zat (zd7 (d:=.str f) (zcf (EvO.l (zc9 (ds:=prs.map D.str) (zab (za5 (by decide +kernel) (by decide +kernel)) (zab (za5 (by decide +kernel) (by decide +kernel)) zaf)) (small (by simp [prs])))) (zcc (zgg (dr 0 0 rfl (by decide) rfl).b zai.b ⟨by decide, by decide⟩).b zai.b (by decide)).b ef) ?_)
  ((try dsimp only); refine zbh ?_)
  have hrow : zs5 (ot, f, cd) := ⟨hoN, .inr ⟨hf, hcN, fun e => by have := congrArg List.length e; dsimp only at this; omega⟩⟩
  have hg := zmg hrow
  have er : zlb (ot, f, cd) = encF (minL cd ot, f, maxL cd ot) := by unfold zlb; rw [if_pos hf, (zr0 cd ot).1, (zr0 cd ot).2]; rfl
  rw [er] at hg
  exact zb1 (zgf (zab (row rfl rfl rfl (by omega) (by omega) (by omega)) (zab (zgf (zab (zop (zad rfl).b (zad rfl).b) (zab (zad rfl) (zab (zrr (zad rfl).b (zad rfl).b) zaf))) (small (by simp))) zaf)) (small (by simp))) (rt _ ⟨_, some (minL cd ot, f, maxL cd ot), rfl, ten (zqt hoN) f10 (zqt hcN), by simp; omega, (fun z => by cases z), fun g z => by
   cases z
   refine ⟨?_, hg⟩
   have := zm0 (m:=[32] ++ f ++ [32] ++ cd) hoN
   simpa [List.append_assoc] using this⟩)
 ((try dsimp only); refine zbh ?_)
 obtain ⟨f, hf, _, ef⟩ := zka flds (num c 2 / 5) (n:=5) rfl (by decide)
 obtain ⟨_, f10, fl⟩ := zlu f (List.mem_append_left _ hf)
 refine zat (zd7 (d:=.str f) (zcf (EvO.l (zc9 (ds:=flds.map D.str) (zab (za5 (by decide +kernel) (by decide +kernel)) (zab (za5 (by decide +kernel) (by decide +kernel)) (zab (za5 (by decide +kernel) (by decide +kernel)) (zab (za5 (by decide +kernel) (by decide +kernel)) (zab (za5 (by decide +kernel) (by decide +kernel)) zaf))))) (small (by simp [flds])))) (zcc (zgg (dr 0 0 rfl (by decide) rfl).b zai.b ⟨by decide, by decide⟩).b zai.b (by decide)).b ef) ?_)
 ((try dsimp only); refine zbh ?_)
 have hm : (num c 4 % 1000).toNat < 1000 := by omega
 have hm0 : 0 <= num c 4 % 1000 := by omega
 have hm1 : num c 4 % 1000 < 10 ^ 10 := Int.lt_of_lt_of_le (show num c 4 % 1000 < 1000 by omega) (by decide)
 obtain ⟨sx, hs, _, es⟩ := zka sfx (num c 4 / 1000) (n:=4) rfl (by decide)
 obtain ⟨ht, ht10, htl⟩ := zts hm hs
 have hsl := (zue sx hs).1
 have hnl : (numL (num c 4 % 1000).toNat).length <= 20 := by rw [List.length_append] at htl; omega
 refine zat (zd7 (d:=.str (numL (num c 4 % 1000).toNat ++ sx)) (zda (zvv (zcc (dr 2 2 rfl (by decide) rfl).b zai.b (by decide)).b hm0 hm1).b (zcf (EvO.l (zc9 (ds:=sfx.map D.str) (zab (za5 (by decide +kernel) (by decide +kernel)) (zab (za5 (by decide +kernel) (by decide +kernel)) (zab (za5 (by decide +kernel) (by decide +kernel)) (zab (za5 (by decide +kernel) (by decide +kernel)) zaf)))) (small (by simp [sfx])))) (zcc (zgg (dr 2 2 rfl (by decide) rfl).b zai.b ⟨by decide, by decide⟩).b zai.b (by decide)).b es).b (small (by omega))) ?_)
 ((try dsimp only); refine zbh ?_)
 generalize numL (num c 4 % 1000).toNat ++ sx = t at ht ht10 htl ⊢
 have hrow : zs5 (cd, f, t) := ⟨hcN, .inl ⟨hf, ht⟩⟩
 have hg := zmg hrow
 have er : zlb (cd, f, t) = encF (cd, f, t) := by unfold zlb; rw [if_neg (zkz f hf)]; rfl
 rw [er] at hg
 exact zb1 (zgf (zab (row rfl rfl rfl (by omega) (by omega) (by omega)) (zab (zgf (zab (zad rfl) (zab (zad rfl) (zab (zad rfl) zaf))) (small (by simp))) zaf)) (small (by simp))) (rt _ ⟨_, some (cd, f, t), rfl, ten (zqt hcN) f10 ht10, by simp; omega, (fun z => by cases z), fun g z => by
  cases z
  refine ⟨?_, hg⟩
  have := zm0 (m:=[32] ++ f ++ [32] ++ t) hcN
  simpa [List.append_assoc] using this⟩)
noncomputable def bd (x : Str) : List Nat := x.cps.toList
noncomputable def zri : List (List Nat) := [bd "bo", bd "bo name", bd "bo name ", bd "Bo name Bo", bd "bo names Bo", bd "bo name  Bo", bd "bo name Bo ", bd "bo same bo"]
noncomputable def zs4 : List (List Nat) := [bd " bo name Bo", bd " # x", bd "bo apart Ann", bd "bo  name Bo", bd "abcdefghijklm way 1", bd "bo mark " ++ (List.replicate 41 [120]).flatten]
noncomputable def bads : List (List Nat) := zri ++ zs4
theorem zt6 : ∀ l ∈ bads, (fof l).isNone = true /\ zdn l = false /\ 10 ∉ l /\ l.length <= 100 := by decide +kernel
theorem zou : ∀ l ∈ bads, fof l = none /\ zdn l = false /\ 10 ∉ l /\ l.length <= 100 := fun l hl => ⟨Option.isNone_iff_eq_none.mp (zt6 l hl).1, (zt6 l hl).2⟩
noncomputable def zrh : List D -> D
 | [.int d] => .str (bads.getD (d % 14).toNat [])
 | _ => .non
theorem znn (Z : Tx K mg ad0) : FnOk P w K mg base CX0 1 ad0.f_law_bad ad0.d_law_bad ["_law_draw"] (SpD K preI zrh) := by
 refine Z.F_law_bad.ok ze1 (fun vs H Q E h => zbi (n:=1) (by rintro ds ⟨c, rfl⟩; rfl) h) (fun cdv A outer s H vs Q E hr h => ⟨_, (zah (zbq (i:=1) ze1.nd rfl (Or.inl rfl) (zep (zaa zap (zaa zap (zaa zap (zaa zap (zaa zap (zaa zap (zaa zap (zaa zap zae))))))))))
   (zah (zbq (i:=1) ze1.nd rfl (Or.inl rfl) (za3 (show OpR _ _ (zvm K) from zwg) (pv 1) (zep (zaa zap (zaa zap (zaa zap (zaa zap (zaa zap (zaa (za3 za4 zap (za3 (show OpR _ _ zvx from zut) zap zag)) zae)))))))))
   (zaq (zbj (zbk (show IxR _ (rIxL K) from zar) (pv 1) (za3 zb9 (pv 0) zag) (fun _ _ => rfl)))))), ?_⟩)
 refine zeu h (by rw [zbi (n:=1) (by rintro ds ⟨c, rfl⟩; rfl) h]; decide) fun G ds hp rt => ?_
 obtain ⟨d, rfl⟩ := hp
 have rt : RtD K G H Q (.str (bads.getD (d % 14).toNat [])) := rt
 obtain ⟨b, _, eb, hb⟩ := zka bads d (n:=14) rfl (by decide)
 rw [<- eb] at rt
 have st : ∀ {L0 : Hp} {ss : List Sl} (x : Str), (x = T (bd x)) -> (∀ c ∈ bd x, c < 128) -> Ev K G H L0 ss (tC (.str x)) (.str (bd x)) := fun x e1 e2 => za5 e1 e2
 refine zat (zcp (ds:=zri.map D.str) (zc9 (ds:=zri.map D.str) (zab (st _ (by decide +kernel) (by decide +kernel)) (zab (st _ (by decide +kernel) (by decide +kernel)) (zab (st _ (by decide +kernel) (by decide +kernel)) (zab (st _ (by decide +kernel) (by decide +kernel)) (zab (st _ (by decide +kernel) (by decide +kernel)) (zab (st _ (by decide +kernel) (by decide +kernel)) (zab (st _ (by decide +kernel) (by decide +kernel)) (zab (st _ (by decide +kernel) (by decide +kernel)) zaf)))))))) (small (by simp [zri]))) fun p => zcn (i:=1) rfl ?_)
 ((try dsimp only); refine zbh ?_)
 refine zat (zcp (ds:=bads.map D.str) (by
  rw [show bads.map D.str = zri.map D.str ++ zs4.map D.str from rfl]
  exact zu4 (zad rfl).l (EvO.l (zc9 (ds:=zs4.map D.str) (zab (st _ (by decide +kernel) (by decide +kernel)) (zab (st _ (by decide +kernel) (by decide +kernel)) (zab (st _ (by decide +kernel) (by decide +kernel)) (zab (st _ (by decide +kernel) (by decide +kernel)) (zab (st _ (by decide +kernel) (by decide +kernel)) (zab (zda (st _ (by decide +kernel) (by decide +kernel)).b (zuu (n:=41) (za5 (l:=[120]) (by decide +kernel) (by decide)).b zai.b (by decide) (by decide)).b (small (by decide +kernel))) zaf)))))) (small (by simp [zs4])))) (small (by decide))) fun p2 => zcn (i:=1) rfl ?_)
 ((try dsimp only); refine zbh ?_)
 exact zb1 (zcf (zad rfl).l (zcc (zad rfl).b zai.b (by decide)).b hb) rt
noncomputable def zw3 (ds : List D) : Prop := ∃ (l : List Nat) (n : Int), ds = [.str l, .int n] /\ zqf [.str l] /\ znh [.str l] /\ ztq [.str l] = .int n
theorem zg3 (Z : Tx K mg ad0) : FnOk P w K mg base CX0 6 ad0.f_law_refused ad0.d_law_refused ["_law_text", "_law_number"] (SpD K zw3 fun _ => .bl true) := by
 have G_read_book := ze8 (P:=P) (w:=w) (base:=base) Z
 have G_law_whole : FnOk P w K mg base CX0 5 ad0.f_law_whole ad0.d_law_whole ["_law_found"] (SpD K (fun ds => ∃ c : Int, ds = [.int c]) fun _ => .bl true) := (zj8 Z).mono (by decide)
 refine Z.F_law_refused.ok zb7 (fun vs H Q E h => zbi (n:=2) (by rintro ds ⟨l, n, rfl, _⟩; rfl) h) (fun cdv A outer s H vs Q E hr h => ⟨_, (zah (zbq (i:=2) zb7.nd rfl (Or.inl rfl) zrn)
   (zah (zpg G_read_book (hr.mono (by decide)) (by rfl) Z.M_read_book Z.F_read_book.kp Z.B_read_book (zaa (pv 0) zae) (by rfl) Z.M_FolkError zb7.nd (i:=3) rfl rfl (fun _ => (zaq (zbq (i:=2) zb7.nd rfl (Or.inl rfl) (pv 3)))) ⟨rfl, rfl, rfl⟩)
   (zah (zfk (PW.pt (zs6 (zht (zd4 (zau (show zca _ _ (zk5 K) from zdq) (by rfl) Z.z_isinstance boot_isinstance (zaa (pv 2) (zaa (zcl (v:=.ref ad0.c_NoRow) (by rfl) Z.M_NoRow rfl) zae))))) (zpl (zht (zd4 (zau (show zca _ _ (zk5 K) from zdq) (by rfl) Z.z_isinstance boot_isinstance (zaa (pv 2) (zaa (zk4 (v:=.ty "ValueError") (by rfl) Z.z_ValueError PyProof.Rows.Boot.«ValueError» rfl) zae)))))))) (zaq (zbj ztj)) zcg)
   (zah (zfk (PW.pt (zs6 (zd4 (zau (show zca _ _ (zk5 K) from zdq) (by rfl) Z.z_isinstance boot_isinstance (zaa (pv 2) (zaa (zcl (v:=.ref ad0.c_NoPair) (by rfl) Z.M_NoPair rfl) zae)))) (zs6 (zd4 (zau (show zca _ _ (zk5 K) from zdq) (by rfl) Z.z_isinstance boot_isinstance (zaa (pv 2) (zaa (zcl (v:=.ref ad0.c_NoText) (by rfl) Z.M_NoText rfl) zae)))) (zpl (zd4 (zau (show zca _ _ (zk5 K) from zdq) (by rfl) Z.z_isinstance boot_isinstance (zaa (pv 2) (zaa (zcl (v:=.ref ad0.c_NoName) (by rfl) Z.M_NoName rfl) zae)))))))) (zaq (zbj ztj)) zcg)
   (zaq (zbj (zji (zbd G_law_whole (hr.mono (by decide)) (by rfl) Z.M_law_whole Z.F_law_whole.kp Z.B_law_whole .nil zcx (zaa (zjp (pv 2) (by rfl)) zae)) (zhw (ze0 znr (zjp (pv 2) (by rfl)) (pv 1) (zdf _)))))))))), ?_⟩)
 refine zeu h (by rw [zbi (n:=2) (by rintro ds ⟨l, n, rfl, _⟩; rfl) h]; decide) fun G ds hp rt => ?_
 obtain ⟨l, n, rfl, hpre, hbad, herr⟩ := hp
 refine zat (zd7 zt9 ?_)
 ((try dsimp only); refine zbh ?_)
 refine zat (zsu (i:=3) (j:=2) (pre:=zqf) (bad:=znh) (res:=zv0) (err:=ztq) (zab (zad rfl) zaf) hpre hbad Z.H_NoRow_FolkError (by decide) (by show 3 < 4; decide) (by show 2 < 4; decide) fun x dx => ?_)
 rw [herr]
 ((try dsimp only); refine zbh ?_)
 refine zat (zei (b:=(!true || !true)) (zkp (zez (zg9 (zgr (j:=2) rfl Z.T_NoRow (.inl ⟨_, rfl, rfl⟩) Z.I_NoRow_NoRow))) fun _ => zez (zg9 (zgr (j:=2) rfl Z.T_NoRow (.inr ⟨_, rfl, rfl⟩) Z.I_NoRow_ValueError))) (fun hb => by simp at hb) (fun _ => zb5 ?_))
 ((try dsimp only); refine zbh ?_)
 refine zat (zei (b:=(false || (false || false))) (zkp (zg9 (zgr (j:=2) rfl Z.T_NoRow (.inl ⟨_, rfl, rfl⟩) Z.I_NoRow_NoPair)) fun _ => zkp (zg9 (zgr (j:=2) rfl Z.T_NoRow (.inl ⟨_, rfl, rfl⟩) Z.I_NoRow_NoText)) fun _ => zg9 (zgr (j:=2) rfl Z.T_NoRow (.inl ⟨_, rfl, rfl⟩) Z.I_NoRow_NoName)) (fun hb => by simp at hb) (fun _ => zb5 ?_))
 ((try dsimp only); refine zbh ?_)
 refine zb1 (d:=.bl (true && decide (n = n))) (zkm (zco (pre:=fun ds => ∃ c : Int, ds = [.int c]) (res:=fun _ => .bl true) (zab (zki (j:=2) rfl Z.T_NoRow Z.Na_NoRow_row) zaf) ⟨n, rfl⟩) fun _ => zna (zki (j:=2) rfl Z.T_NoRow Z.Na_NoRow_row).b (zad rfl).b) ?_
 rw [decide_eq_true rfl]; exact rt
theorem zmv (ns : List Int) (k : Int) : ∃ i, zc7 [.lst (ns.map .int), .int k] = .int i := by
 show ∃ i, (ns.map D.int).getD k.toNat (.int 0) = .int i
 rw [List.getD_eq_getElem?_getD, List.getElem?_map]
 cases ns[k.toNat]? <;> exact ⟨_, rfl⟩
theorem zlk {lines : List (List Nat)} (h10 : ∀ l ∈ lines, 10 ∉ l) (h0 : lines ≠ []) : zct 10 (glue [10] lines) = lines := by
 unfold zct
 refine zho h0 h10 ?_
 have : ∀ qs : List (List Nat), qs.length <= (glue [10] qs).length + 1 := fun qs => by
  induction qs with
  | nil => simp
  | cons a r ih =>
   cases r with
   | nil => simp
   | cons b r => simp only [glue, List.length_append, List.length_cons, List.length_nil] at ih ⊢; omega
 have := this lines
 omega
theorem zdz {lines : List (List Nat)} (h10 : ∀ l ∈ lines, 10 ∉ l) : zcm (glue [10] lines) = (List.range lines.length).filter (fun i => !zdn (lines.getD i [])) /\ (lines ≠ [] -> ∀ i, lnAt (glue [10] lines) i = lines.getD i []) := by
 by_cases h0 : lines = []
 ·subst h0
  exact ⟨by decide +kernel, fun z => absurd rfl z⟩
 have hs := zlk h10 h0
 have hl : ∀ i, lnAt (glue [10] lines) i = lines.getD i [] := fun i => by unfold lnAt; rw [hs]
 refine ⟨?_, fun _ => hl⟩
 unfold zcm
 rw [hs]
 congr 1
 funext i
 rw [hl]
theorem zlh {lines : List (List Nat)} (h10 : ∀ l ∈ lines, 10 ∉ l) {i : Nat} (h : i ∈ zcm (glue [10] lines)) : i < lines.length /\ zdn (lines.getD i []) = false /\ lnAt (glue [10] lines) i = lines.getD i [] /\ lines.getD i [] ∈ lines := by
 obtain ⟨h1, h2⟩ := zdz h10
 rw [h1] at h
 obtain ⟨hr, hp⟩ := List.mem_filter.mp h
 have hlt := List.mem_range.mp hr
 have hm : lines.getD i [] ∈ lines := by rw [List.getD_eq_getElem?_getD, List.getElem?_eq_getElem hlt]; exact List.getElem_mem hlt
 exact ⟨hlt, by simpa using hp, h2 (fun z => by rw [z] at hlt; cases hlt) i, hm⟩
theorem zuc {ls : List (List Nat)} {n : Nat} (h : ∀ l ∈ ls, l.length <= n) : (ls.map List.length).sum <= n * ls.length := by
 induction ls with
 | nil => simp
 | cons a l ih =>
  have h1 := h a List.mem_cons_self
  have h2 := ih fun x hx => h x (List.mem_cons_of_mem _ hx)
  simp only [List.map_cons, List.sum_cons, List.length_cons]
  rw [Nat.mul_add]; omega
theorem zmq (z : List Nat) : ∀ ls : List (List Nat), (glue z ls).length <= (ls.map List.length).sum + z.length * ls.length
 | [] => by simp [glue]
 | [a] => by simp [glue]
 | a :: b :: r => by
  have := zmq z (b :: r)
  simp only [glue, List.length_append, List.map_cons, List.sum_cons, List.length_cons, Nat.mul_add, Nat.mul_one] at this ⊢
  omega
theorem zjl {lines : List (List Nat)} (h : ∀ l ∈ lines, 10 ∉ l /\ l.length <= 100) (hl : lines.length <= 62) : zqf [.str (glue [10] lines)] := by
 have h10 : ∀ l ∈ lines, 10 ∉ l := fun l hl => (h l hl).1
 have h1 := zuc fun l hl => (h l hl).2
 have h2 := zmq [10] lines
 simp only [List.length_cons, List.length_nil] at h2
 refine ⟨_, rfl, by omega, ?_, fun i hi => ?_⟩
 ·rw [(zdz h10).1]
  have := (List.filter_sublist (l:=List.range lines.length) (p:=fun i => !zdn (lines.getD i []))).length_le
  rw [List.length_range] at this
  omega
 ·obtain ⟨_, _, e, hm⟩ := zlh h10 hi
  rw [e]
  have := (h _ hm).2
  omega
theorem zsf {lines : List (List Nat)} {at_ : Nat} (h10 : ∀ l ∈ lines, 10 ∉ l) (hlt : at_ < lines.length) (hp : zdn (lines.getD at_ []) = false) (hb : fof (lines.getD at_ []) = none) (hg : ∀ i, i < at_ -> zdn (lines.getD i []) = true \/ fof (lines.getD i []) ≠ none) :
  znh [.str (glue [10] lines)] /\ ztq [.str (glue [10] lines)] = .int ((at_ + 1 : Nat) : Int) := by
 have h0 : lines ≠ [] := fun z => by rw [z] at hlt; cases hlt
 obtain ⟨h1, h2⟩ := zdz h10
 have h2 := h2 h0
 have hf : (zcm (glue [10] lines)).find? (fun i => (fof (lnAt (glue [10] lines) i)).isNone) = some at_ := by
  rw [h1, List.find?_filter, List.find?_range_eq_some]
  refine ⟨?_, List.mem_range.mpr hlt, fun j hj => ?_⟩
  ·rw [h2, hp, hb]; rfl
  ·rw [h2]
   rcases hg j hj with h | h
   ·rw [h]; rfl
   ·cases e : fof (lines.getD j []) with
    | none => exact absurd e h
    | some x => simp
 refine ⟨⟨_, rfl, at_, ?_, by rw [h2]; exact hb⟩, ?_⟩
 ·exact List.mem_of_find?_eq_some hf
 ·show D.int ((frsB (glue [10] lines) + 1 : Nat) : Int) = _
  unfold frsB
  rw [hf]; rfl
noncomputable abbrev Pr := List Nat × Option Fct
noncomputable def PsOk (ps : List Pr) : Prop := ∀ p ∈ ps, LnR p.1 p.2
theorem zwa {ps : List Pr} (h : PsOk ps) : ∀ l ∈ ps.map (·.1), (10 ∉ l /\ l.length <= 100) /\ (zdn l = true \/ fof l ≠ none) := by
 intro l hl
 obtain ⟨p, hp, rfl⟩ := List.mem_map.mp hl
 obtain ⟨h1, h2, h3, h4⟩ := h p hp
 refine ⟨⟨h1, h2⟩, ?_⟩
 cases e : p.2 with
 | none => exact .inl (h3 e)
 | some f => right; rw [(h4 f e).2]; intro z; cases z
theorem zqc {ps : List Pr} (h : PsOk ps) : ¬ znh [.str (glue [10] (ps.map (·.1)))] /\ ∀ f, f ∈ zc0 (glue [10] (ps.map (·.1))) ↔ ∃ p ∈ ps, p.2 = some f := by
 have h10 : ∀ l ∈ ps.map (·.1), 10 ∉ l := fun l hl => (zwa h l hl).1.1
 have hget : ∀ i (hi : i < ps.length), (ps.map (·.1)).getD i [] = ps[i].1 := fun i hi => by
  rw [List.getD_eq_getElem?_getD, List.getElem?_map, List.getElem?_eq_getElem hi]; rfl
 refine ⟨?_, fun f => ⟨fun hf => ?_, ?_⟩⟩
 ·rintro ⟨tx, e, i, hi, hn⟩
  cases e
  obtain ⟨_, hp, e, hm⟩ := zlh h10 hi
  rw [e] at hn
  rcases (zwa h _ hm).2 with z | z
  ·rw [z] at hp; cases hp
  ·exact z hn
 ·unfold zc0 at hf
  obtain ⟨i, hi, rfl⟩ := List.mem_map.mp hf
  obtain ⟨hlt, hp, e, _⟩ := zlh h10 hi
  rw [List.length_map] at hlt
  rw [hget i hlt] at hp e
  rw [e]
  obtain ⟨_, _, h3, h4⟩ := h ps[i] (List.getElem_mem hlt)
  refine ⟨ps[i], List.getElem_mem hlt, ?_⟩
  cases e2 : ps[i].2 with
  | none => rw [h3 e2] at hp; cases hp
  | some g => unfold fofF; rw [(h4 g e2).2]; rfl
 ·rintro ⟨p, hp, e⟩
  obtain ⟨i, hi, rfl⟩ := List.mem_iff_getElem.mp hp
  obtain ⟨_, _, _, h4⟩ := h ps[i] hp
  obtain ⟨g1, g2⟩ := h4 f e
  obtain ⟨t1, t2⟩ := zdz h10
  have hne : ps.map (·.1) ≠ [] := fun z => by have := congrArg List.length z; rw [List.length_map, List.length_nil] at this; omega
  refine List.mem_map.mpr ⟨i, ?_, ?_⟩
  ·rw [t1]
   exact List.mem_filter.mpr ⟨List.mem_range.mpr (by rw [List.length_map]; exact hi), by rw [hget i hi, g1]; rfl⟩
  ·rw [t2 hne i, hget i hi]
   unfold fofF; rw [g2]; rfl
theorem zui {α : Type} {xs : List α} {k : Nat} (h : k <= xs.length) (x z : α) : (xs.take k ++ x :: xs.drop k).getD k z = x /\ (∀ i, i < k -> (xs.take k ++ x :: xs.drop k).getD i z = xs.getD i z) /\ (xs.take k ++ x :: xs.drop k).length = xs.length + 1 /\ ∀ y ∈ xs.take k ++ x :: xs.drop k, y = x \/ y ∈ xs := by
 have ht : (xs.take k).length = k := by rw [List.length_take]; omega
 refine ⟨?_, fun i hi => ?_, ?_, fun y hy => ?_⟩
 ·rw [List.getD_eq_getElem?_getD, List.getElem?_append_right (by omega), ht, Nat.sub_self]; rfl
 ·rw [List.getD_eq_getElem?_getD, List.getD_eq_getElem?_getD, List.getElem?_append_left (by omega), List.getElem?_take, if_pos hi]
 ·rw [List.length_append, List.length_cons, List.length_drop, ht]; omega
 ·rcases List.mem_append.mp hy with h | h
  ·exact .inr (List.mem_of_mem_take h)
  ·rcases List.mem_cons.mp h with h | h
   ·exact .inl h
   ·exact .inr (List.mem_of_mem_drop h)
theorem zow (bl : List (List Nat)) (k : Nat) (b : List Nat) : (bl.map D.str).take k ++ D.str b :: (bl.map D.str).drop k = (bl.take k ++ b :: bl.drop k).map D.str := by
 rw [List.map_append, List.map_cons, List.map_take, List.map_drop]
theorem mem_getD {α : Type} {xs : List α} {i : Nat} (h : i < xs.length) (z : α) : xs.getD i z ∈ xs := by
 rw [List.getD_eq_getElem?_getD, List.getElem?_eq_getElem h]; exact List.getElem_mem h
theorem zsq : bads.length = 14 := by decide +kernel
theorem zt4 (d : Int) : bads.getD (d % 14).toNat [] ∈ bads := mem_getD (by rw [zsq]; omega) _
theorem zwx (Z : Tx K mg ad0) : FnOk P w K mg base CX0 21 ad0.f_law ad0.d_law ["_law_script"] (zso K) := by
 have G_law_cell_at := zhd (P:=P) (w:=w) (base:=base) Z
 have G_law_row := zoc (P:=P) (w:=w) (base:=base) Z
 have G_law_stream := zej (P:=P) (w:=w) (base:=base) Z
 have G_law_bad := znn (P:=P) (w:=w) (base:=base) Z
 have G_law_refused := zg3 (P:=P) (w:=w) (base:=base) Z
 have G_read_book := ze8 (P:=P) (w:=w) (base:=base) Z
 refine Z.F_law.ok zd5 (fun vs H Q E h => by obtain ⟨a, ns, rfl, _⟩ := h; rfl) (fun cdv A outer s H vs Q E hr h => ⟨_, (zah (zbq (i:=1) zd5.nd rfl (Or.inl rfl) (zep zae))
   (zah (zbq (i:=2) zd5.nd rfl (Or.inl rfl) (zep zae))
   (zah (zum PassesOwn.never rfl (zpw (zma zrl (pv 0) (zlg zag) (zlg zag))) (zcw (i:=3) zd5.nd rfl (Or.inl rfl)) (zah (zw7 (zbd G_law_row (hr.mono (by decide)) (by rfl) Z.M_law_row Z.F_law_row.kp Z.B_law_row .nil zcx (zaa (pv 3) zae)) (zqq rfl (zdy (zcw (i:=4) zd5.nd rfl (Or.inl rfl)) (zdy (zcw (i:=5) zd5.nd rfl (Or.inl rfl)) zlw))))
   (zah (zeb (zfn F.plainAttrs_list F.slot_list_append F.type_list_append zdv (pv 1) (zaa (pv 4) zae)))
   (zaq (zfk (PW.pt (zmr (zcv (show OpR _ _ zww from zvf) (pv 5) zrn (zdf _)) (zl2 (zcv (show OpR _ _ (rInD K true) from zre hr.units) (pv 5) (pv 2) (by with_unfolding_all rfl))))) (zaq (zeb (zfn F.plainAttrs_list F.slot_list_append F.type_list_append zdv (pv 2) (zaa (pv 5) zae)))) zcg)))))
   (zah (zbq (i:=6) zd5.nd rfl (Or.inl rfl) (zbd G_law_stream (hr.mono (by decide)) (by rfl) Z.M_law_stream Z.F_law_stream.kp Z.B_law_stream .nil zcx (zaa (zbd G_law_cell_at (hr.mono (by decide)) (by rfl) Z.M_law_cell_at Z.F_law_cell_at.kp Z.B_law_cell_at .nil zcx (zaa (pv 0) (zaa zag zae))) (zaa zag zae))))
   (zah (zbq (i:=7) zd5.nd rfl (Or.inl rfl) (zbd G_law_stream (hr.mono (by decide)) (by rfl) Z.M_law_stream Z.F_law_stream.kp Z.B_law_stream .nil zcx (zaa (zbd G_law_cell_at (hr.mono (by decide)) (by rfl) Z.M_law_cell_at Z.F_law_cell_at.kp Z.B_law_cell_at .nil zcx (zaa (pv 0) (zaa zag zae))) (zaa zag zae))))
   (zah (zbq (i:=8) zd5.nd rfl (Or.inl rfl) (zeq zje (by rfl) Z.z_list boot_list (zaa (pv 1) zae)))
   (zah (zbq (i:=9) zd5.nd rfl (Or.inl rfl) (za3 zb9 (zbk (show IxR _ (rIxL K) from zar) (pv 6) zag (fun _ _ => rfl)) (za3 ze9 (zau zcs (by rfl) Z.z_len boot_len (zaa (pv 8) zae)) zag)))
   (zah (zeb (zfn F.plainAttrs_list F.slot_list_insert F.type_list_insert zkv (pv 8) (zaa (pv 9) (zaa (zbd G_law_bad (hr.mono (by decide)) (by rfl) Z.M_law_bad Z.F_law_bad.kp Z.B_law_bad .nil zcx (zaa (zbk (show IxR _ (rIxL K) from zar) (pv 6) zag (fun _ _ => rfl)) zae)) zae))))
   (zah (zfk (zcv znr (za3 zb9 (zbk (show IxR _ (rIxL K) from zar) (pv 6) zag (fun _ _ => rfl)) zag) zag (zdf _)) (zaq (zeb (zfn F.plainAttrs_list F.slot_list_insert F.type_list_insert zkv (pv 8) (zaa (za3 ze9 (za3 ze9 (pv 9) zag) (za3 zb9 (zbk (show IxR _ (rIxL K) from zar) (pv 7) zag (fun _ _ => rfl)) (za3 zxs (zau zcs (by rfl) Z.z_len boot_len (zaa (pv 8) zae)) (pv 9)))) (zaa (zbd G_law_bad (hr.mono (by decide)) (by rfl) Z.M_law_bad Z.F_law_bad.kp Z.B_law_bad .nil zcx (zaa (zbk (show IxR _ (rIxL K) from zar) (pv 7) zag (fun _ _ => rfl)) zae)) zae))))) zcg)
   (zah (zfk (zht (zd4 (zbd G_law_refused (hr.mono (by decide)) (by rfl) Z.M_law_refused Z.F_law_refused.kp Z.B_law_refused .nil zcx (zaa (zfn F.plainAttrs_str F.slot_str_join F.type_str_join zpu zap (zaa (pv 8) zae)) (zaa (za3 ze9 (pv 9) zag) zae))))) (zaq (zbj ztj)) zcg)
   (zaq (zbj (ze0 (show OpR _ _ (rEqD K) from zwp hr.units) (zbd G_read_book (hr.mono (by decide)) (by rfl) Z.M_read_book Z.F_read_book.kp Z.B_read_book .nil zxa (zaa (zfn F.plainAttrs_str F.slot_str_join F.type_str_join zpu zap (zaa (pv 1) zae)) zae)) (zau (show zca _ _ (zlr K) from zin) (by rfl) Z.z_sorted boot_sorted (zaa (pv 2) zae)) (zdf _)))))))))))))), ?_⟩)
 obtain ⟨a, ns, rfl, sq, hl, hQ⟩ := h
 have r : Reps K H [.lst (ns.map .int)] [.ref a] := Reps.cons (Rep.lst sq (zj0 ns)) Reps.nil
 have rt : RtD K H H Q (.bl true) := fun v F H' e r => by rw [r.of_bl]; exact hQ H'
 refine (?_ : Go K H H H _ (slots 10 [.lst (ns.map .int)]) _) H H _ (zdt (Same.refl H) r (by simp))
 have hcell : ∀ {L0 : Hp} {ss : List Sl} {tk : TE} {k : Int} {EX : XK}, ss[0]? = some (.d (.lst (ns.map .int))) -> Ev K H H L0 ss tk (.int k) -> 0 <= k -> Ev K H H L0 ss (zil (SpD K zlz zc7) [] EX (zbe (tVar 0) (zbe tk tNil))) (zc7 [.lst (ns.map .int), .int k]) := fun {L0 ss tk k EX} hs hk h0 =>
  zco (pre:=zlz) (res:=zc7) (zab (zad hs) (zab hk zaf)) ⟨ns, k, rfl, h0⟩
 have mono : ∀ {m : Nat}, m <= 1000 -> m < sizeLine := fun h => by rw [sizeLine_eq]; omega
 have z10 : ∀ {L0 : Hp} {ss : List Sl}, EvB K H H L0 ss (tC (.str "\n")) (.str [10]) := (za5 (l:=[10]) (by decide +kernel) (by decide)).b
 refine zat (zcp (ds:=[]) (zc9 zaf (small (by decide))) fun pr => ?_)
 ((try dsimp only); refine zbh ?_)
 refine zat (zcp (ds:=[]) (zc9 zaf (small (by decide))) fun pf => ?_)
 ((try dsimp only); refine zbh ?_)
 generalize hxs : (ns.drop 2).take 60 = xs
 have hxl : xs.length <= 60 := by rw [<- hxs]; simp; omega
 have exs : cutD (ns.map D.int) (some 2) (some 62) = xs.map D.int := by
  rw [ztf _ (by decide) (by decide), <- hxs, List.map_take, List.map_drop]; rfl
 refine zat (zw0 D.int xs (fun k ss => ∃ (ps : List Pr) (fs : List Fct) (v3 v4 v5 : Sl), ss = [.d (.lst (ns.map .int)), .o pr ((ps.map (·.1)).map D.str), .o pf (fs.map encF), v3, v4, v5, .un, .un, .un, .un] /\ ps.length = k /\ fs.length <= k /\ fs.Nodup /\ PsOk ps /\ ∀ f, f ∈ fs ↔ ∃ p ∈ ps, p.2 = some f) (by rw [<- exs]; exact (zqk (zad rfl).l (zic zai.b) (zic zai.b)).ev) ⟨[], [], .un, .un, .un, rfl, rfl, Nat.le_refl _, List.nodup_nil, (fun p hp => by cases hp), fun f => by simp⟩ ?_ ?_)
 ·rintro L' k c ss hL hk ⟨ps, fs, v3, v4, v5, rfl, hpl, hfl, hfn, hok, hmem⟩
  refine ⟨_, zb4, fun N hN => ?_⟩
  have hk60 : k < 60 := by have := (List.getElem?_eq_some_iff.mp hk).1; omega
  refine zat (ztd (pre:=preI) (R:=relR) (ds:=[.int c]) (zab (zad rfl) zaf) ⟨c, rfl⟩ fun r hR => ?_)
  obtain ⟨l, o, rfl, hln⟩ := hR
  refine ⟨_, zkk rfl (zb6 zb4 (zb6 zb4 zf5)), ?_⟩
  ((try dsimp only); refine zbh ?_)
  refine zat (zgi (d:=.str l) rfl (zad rfl) (mono (by simp; omega)) ?_)
  ((try dsimp only); refine zbh ?_)
  have hok2 : PsOk (ps ++ [(l, o)]) := fun p hp => by
   rcases List.mem_append.mp hp with h | h
   ·exact hok p h
   ·rw [List.mem_singleton.mp h]; exact hln
  have hmem2 : ∀ f, (∃ p ∈ ps ++ [(l, o)], p.2 = some f) ↔ f ∈ fs \/ o = some f := fun f => by
   rw [hmem]
   constructor
   ·rintro ⟨p, hp, e⟩
    rcases List.mem_append.mp hp with h | h
    ·exact .inl ⟨p, h, e⟩
    ·rw [List.mem_singleton.mp h] at e; exact .inr e
   ·rintro (⟨p, hp, e⟩ | e)
    ·exact ⟨p, List.mem_append_left _ hp, e⟩
    ·exact ⟨(l, o), by simp, e⟩
  have em : ((ps.map (·.1)).map D.str) ++ [D.str l] = ((ps ++ [(l, o)]).map (·.1)).map D.str := by simp
  rw [em]
  have hql : (ps ++ [(l, o)]).length = k + 1 := by simp; omega
  generalize ps ++ [(l, o)] = qs at hok2 hmem2 hql ⊢
  cases o with
  | none => exact zei (b:=(!decide (D.non = D.non) && false)) (zgt (zbn (zp4 (zad rfl).b)) fun z => absurd z (by rw [decide_eq_true rfl]; decide)) (fun hb => by rw [decide_eq_true rfl] at hb; cases hb) (fun _ => zb5 (hN _ ⟨qs, fs, _, _, _, rfl, hql, by omega, hfn, hok2, fun f => by rw [hmem2]; simp⟩))
  | some x =>
   have en : decide (encF x = D.non) = false := decide_eq_false fun z => D.noConfusion z
   refine zei (b:=(!decide (encF x = D.non) && !decide (encF x ∈ fs.map encF))) (zgt (zbn (zp4 (zad rfl).b)) fun _ => zbn (zrx (zad rfl).b (zdr rfl).b (nbF x) (D.nbs_map nbF _) (by have := dpF x; omega))) (fun hb => ?_) (fun hb => ?_)
   ·rw [en, Bool.not_false, Bool.true_and, Bool.not_eq_true', decide_eq_false_iff_not, ze6] at hb
    refine zgi rfl (zad rfl) (mono (by rw [List.length_map]; omega)) (hN _ ⟨qs, fs ++ [x], _, _, _, by rw [List.map_append]; rfl, hql, by simp; omega, ?_, hok2, fun f => by rw [hmem2]; simp [eq_comm]⟩)
    rw [List.nodup_append]
    exact ⟨hfn, by simp, fun a ha c hc e => by rw [List.mem_singleton] at hc; subst hc; subst e; exact hb ha⟩
   ·rw [en, Bool.not_false, Bool.true_and, Bool.not_eq_false', decide_eq_true_eq, ze6] at hb
    exact zb5 (hN _ ⟨qs, fs, _, _, _, rfl, hql, by omega, hfn, hok2, fun f => by
     rw [hmem2]
     exact ⟨.inl, fun h => h.elim id fun e => by cases e; exact hb⟩⟩)
 ·rintro ss ⟨ps, fs, v3, v4, v5, rfl, hpl, hfl, hfn, hok, hmem⟩
  ((try dsimp only); refine zbh ?_)
  obtain ⟨i0, ei0⟩ := zmv ns 0
  obtain ⟨i1, ei1⟩ := zmv ns 1
  refine zat (zcp (ds:=zbu i0 3) (by
   rw [show zbu i0 3 = zce [.int i0, .int 3] from rfl]
   exact zel (pre:=zeo) (res:=zce) (zab (by rw [<- ei0]; exact hcell rfl zai (by decide)) (zab zai zaf)) ⟨i0, 3, rfl, by decide, by decide⟩) fun p1 => zcn (i:=6) rfl ?_)
  ((try dsimp only); refine zbh ?_)
  refine zat (zcp (ds:=zbu i1 2) (by
   rw [show zbu i1 2 = zce [.int i1, .int 2] from rfl]
   exact zel (pre:=zeo) (res:=zce) (zab (by rw [<- ei1]; exact hcell rfl zai (by decide)) (zab zai zaf)) ⟨i1, 2, rfl, by decide, by decide⟩) fun p2 => zcn (i:=7) rfl ?_)
  ((try dsimp only); refine zbh ?_)
  have dr : ∀ {L0 : Hp} {ss : List Sl} {j : Nat} {c : Int} {m : Nat} (i : Int) (k : Nat), i = (k : Int) -> k < m -> ss[j]? = some (.d (.lst (zbu c m))) -> Ev K H H L0 ss (tOp (rIxL K) (tVar j) (tC (.int i))) (.int (num c (k + 2))) := fun i k e hk es => by
   subst e
   exact zcf (zad es).l zai.b (zjr _ _ k hk)
  have h10 := zwa hok
  have hgood := zqc hok
  have hll : (ps.map (·.1)).length <= 60 := by rw [List.length_map]; omega
  generalize ps.map (·.1) = ls at h10 hgood hll ⊢
  have hlm : (((ls.map D.str).length : Int) + 1) = (ls.length : Int) + 1 := by rw [List.length_map]
  refine zat (zcp (ds:=ls.map D.str) (zsc (zdr rfl)) fun pb => ?_)
  ((try dsimp only); refine zbh ?_)
  obtain ⟨at_, hat⟩ : ∃ at_ : Nat, num i0 2 % ((ls.length : Int) + 1) = (at_ : Int) := ⟨(num i0 2 % ((ls.length : Int) + 1)).toNat, by have := Int.emod_nonneg (num i0 2) (show ((ls.length : Int) + 1) ≠ 0 by omega); omega⟩
  have hatl : at_ <= ls.length := by have := Int.emod_lt_of_pos (num i0 2) (show (0 : Int) < (ls.length : Int) + 1 by omega); omega
  refine zat (zd7 (d:=.int (at_ : Int)) (by
   rw [<- hat, <- hlm]
   exact zcc (dr 0 0 rfl (by decide) rfl).b (zfc (zf9 (zdr rfl)).b zai.b).b (by rw [List.length_map]; omega)) ?_)
  ((try dsimp only); refine zbh ?_)
  obtain ⟨b1, eb1⟩ : ∃ b1, bads.getD (num i0 3 % 14).toNat [] = b1 := ⟨_, rfl⟩
  have hm1 : b1 ∈ bads := eb1 ▸ zt4 (num i0 3)
  have hb1 := zou b1 hm1
  refine zat (zjj (j:=8) (i:=at_) (d:=.str b1) rfl (zad rfl) (by rw [<- eb1]; exact zco (pre:=preI) (res:=zrh) (zab (dr 1 1 rfl (by decide) rfl) zaf) ⟨_, rfl⟩) (by rw [List.length_map]; omega) (mono (by rw [List.length_map]; omega)) ?_)
  ((try dsimp only); refine zbh ?_)
  rw [zow]
  obtain ⟨a1, a2, a3, a4⟩ := zui (xs:=ls) (k:=at_) hatl b1 []
  generalize ls.take at_ ++ b1 :: ls.drop at_ = bl at a1 a2 a3 a4 ⊢
  have a5 : ∀ y ∈ bl, y ∈ ls \/ y ∈ bads := fun y hy => (a4 y hy).elim (fun e => .inr (e ▸ hm1)) .inl
  have a6 : ∀ i, i < at_ -> bl.getD i [] ∈ ls := fun i hi => by rw [a2 i hi]; exact mem_getD (by omega) _
  refine zv7 (fun ss => ∃ cl : List (List Nat), ss = [.d (.lst (ns.map .int)), .o pr (ls.map D.str), .o pf (fs.map encF), v3, v4, v5, .d (.lst (zbu i0 3)), .d (.lst (zbu i1 2)), .o pb (cl.map D.str), .d (.int (at_ : Int))] /\ cl.length <= 62 /\ at_ < cl.length /\ cl.getD at_ [] = b1 /\ (∀ i, i < at_ -> cl.getD i [] ∈ ls) /\ ∀ y ∈ cl, y ∈ ls \/ y ∈ bads) (fun N hN => zei (zbn (zna (zcc (dr 2 2 rfl (by decide) rfl).b zai.b (by decide)).b zai.b)) (fun _ => ?_) (fun _ => zb5 (hN _ ⟨bl, rfl, by omega, by omega, a1, a6, a5⟩))) ?_
  ·have hbm : (((bl.map D.str).length : Int) - (at_ : Int)) = (bl.length : Int) - (at_ : Int) := by rw [List.length_map]
   obtain ⟨j, hj⟩ : ∃ j : Nat, num i1 2 % ((bl.length : Int) - (at_ : Int)) = (j : Int) := ⟨(num i1 2 % ((bl.length : Int) - (at_ : Int))).toNat, by have := Int.emod_nonneg (num i1 2) (show ((bl.length : Int) - (at_ : Int)) ≠ 0 by omega); omega⟩
   have hjl : at_ + 1 + j <= bl.length := by have := Int.emod_lt_of_pos (num i1 2) (show (0 : Int) < (bl.length : Int) - (at_ : Int) by omega); omega
   obtain ⟨b2, eb2⟩ : ∃ b2, bads.getD (num i1 3 % 14).toNat [] = b2 := ⟨_, rfl⟩
   have hm2 : b2 ∈ bads := eb2 ▸ zt4 (num i1 3)
   obtain ⟨c1, c2, c3, c4⟩ := zui (xs:=bl) (k:=at_ + 1 + j) hjl b2 []
   refine zjj (j:=8) (i:=at_ + 1 + j) (d:=.str b2) rfl (by
    rw [show ((at_ + 1 + j : Nat) : Int) = ((at_ : Int) + 1) + num i1 2 % (((bl.map D.str).length : Int) - (at_ : Int)) by rw [hbm, hj]; omega]
    exact zfc (zfc (zad rfl).b zai.b).b (zcc (dr 0 0 rfl (by decide) rfl).b (zw1 (zf9 (zdr rfl)).b (zad rfl).b).b (by rw [List.length_map]; omega)).b) (by rw [<- eb2]; exact zco (pre:=preI) (res:=zrh) (zab (dr 1 1 rfl (by decide) rfl) zaf) ⟨_, rfl⟩) (by rw [List.length_map]; omega) (mono (by rw [List.length_map]; omega)) (hN _ ⟨_, by rw [zow]; rfl, by omega, by omega, by rw [c2 _ (by omega)]; exact a1, fun i hi => by rw [c2 _ (by omega)]; exact a6 i hi, fun y hy => (c4 y hy).elim (fun e => .inr (e ▸ hm2)) (a5 y)⟩)
  rintro ss ⟨cl, rfl, c1, c2, c3, c4, c5⟩
  have hm : ∀ l ∈ cl, 10 ∉ l /\ l.length <= 100 := fun l hl => (c5 l hl).elim (fun h => (h10 l h).1) fun h => (zou l h).2.2
  obtain ⟨t1, t2⟩ := zsf (lines:=cl) (at_:=at_) (fun l hl => (hm l hl).1) c2 (by rw [c3]; exact hb1.2.1) (by rw [c3]; exact hb1.1) (fun i hi => (h10 _ (c4 i hi)).2)
  have jl : ∀ {ks : List (List Nat)}, (∀ l ∈ ks, 10 ∉ l /\ l.length <= 100) -> ks.length <= 62 -> (ks.map List.length).sum + ks.length * ([10] : List Nat).length <= 16777216 := fun h1 h2 => by
   have := zuc fun l hl => (h1 l hl).2
   simp only [List.length_cons, List.length_nil]
   omega
  refine zat (zei (b:=!true) (zez (zg9 (zco (pre:=zw3) (res:=fun _ => .bl true) (ds:=[.str (glue [10] cl), .int ((at_ : Int) + 1)]) (zab (zpr (ls:=cl) z10 (zdr rfl) (jl hm c1)) (zab (zfc (zad rfl).b zai.b) zaf)) ⟨_, _, rfl, zjl hm c1, t1, by rw [t2]; congr 1⟩))) (fun hb => by cases hb) (fun _ => zb5 ?_))
  ((try dsimp only); refine zbh ?_)
  have hl2 : ∀ l ∈ ls, 10 ∉ l /\ l.length <= 100 := fun l hl => (h10 l hl).1
  have hres : mkB (dedF (zc0 (glue [10] ls))) = mkB fs := Bk.ext (zuf (zs0 _)) (zuf hfn) fun f => by rw [zqd, zqd, zsx, hgood.2, hmem]
  refine zb1 (d:=.bl (decide (bkD (mkB (dedF (zc0 (glue [10] ls)))) = D.lst (zdg (fs.map encF))))) (zwq (zga (pre:=zqf) (bad:=znh) (res:=zv0) (ds:=[.str (glue [10] ls)]) (zab (zpr (ls:=ls) z10 (zdr rfl) (jl hl2 (by omega))) zaf) (zjl hl2 (by omega)) hgood.1).b (EvO.ev (zjd (zdr rfl) (alF fs) (by rw [List.length_map]; omega))).b (zt7 _) (by rw [zii]; exact zt7 _) (by have := zv4 (mkB (dedF (zc0 (glue [10] ls)))); omega)) ?_
  rw [hres, zii, show bkD (mkB fs) = .lst ((mkB fs).map encF) from rfl, decide_eq_true rfl]
  exact rt
end
theorem zdd {α : Type} {P : List α -> Prop} {us : List α} (hl : us.length = 1) (h : ∀ a0, P [a0]) : P us := match us, hl with
 | [a0], _ => h a0
theorem zkr {α : Type} {P : List α -> Prop} {us : List α} (hl : us.length = 2) (h : ∀ a0 a1, P [a0, a1]) : P us := match us, hl with
 | [a0, a1], _ => h a0 a1
theorem zx1 {α : Type} {P : List α -> Prop} {us : List α} (hl : us.length = 3) (h : ∀ a0 a1 a2, P [a0, a1, a2]) : P us := match us, hl with
 | [a0, a1, a2], _ => h a0 a1 a2
theorem zh2 (kV doc pm : Value) (an : Option Addr) (cdv ct : Value) (us : List Value) (hl : us.length = (["self", "row"] : List Str).length) : bindArgs (PySem.W.fnOf "__init__" "NoRow.__init__" (zan za7) (zak za7) (zac za7) .none kV doc pm an cdv ct) ⟨us, []⟩ = pure ((["self", "row"] : List Str).zip us) :=
 zkr (P:=fun us => bindArgs _ ⟨us, []⟩ = pure (List.zip _ us)) hl fun _ _ => rfl
theorem zn6 (kV doc pm : Value) (an : Option Addr) (cdv ct : Value) (us : List Value) (hl : us.length = (["text"] : List Str).length) : bindArgs (PySem.W.fnOf "is_name" "is_name" (zan zbr) (zak zbr) (zac zbr) .none kV doc pm an cdv ct) ⟨us, []⟩ = pure ((["text"] : List Str).zip us) :=
 zdd (P:=fun us => bindArgs _ ⟨us, []⟩ = pure (List.zip _ us)) hl fun _ => rfl
theorem zoa (kV doc pm : Value) (an : Option Addr) (cdv ct : Value) (us : List Value) (hl : us.length = (["sign"] : List Str).length) : bindArgs (PySem.W.fnOf "is_sign" "is_sign" (zan zbz) (zak zbz) (zac zbz) .none kV doc pm an cdv ct) ⟨us, []⟩ = pure ((["sign"] : List Str).zip us) :=
 zdd (P:=fun us => bindArgs _ ⟨us, []⟩ = pure (List.zip _ us)) hl fun _ => rfl
theorem znx (kV doc pm : Value) (an : Option Addr) (cdv ct : Value) (us : List Value) (hl : us.length = (["text"] : List Str).length) : bindArgs (PySem.W.fnOf "is_text" "is_text" (zan zbs) (zak zbs) (zac zbs) .none kV doc pm an cdv ct) ⟨us, []⟩ = pure ((["text"] : List Str).zip us) :=
 zdd (P:=fun us => bindArgs _ ⟨us, []⟩ = pure (List.zip _ us)) hl fun _ => rfl
theorem zjy (kV doc pm : Value) (an : Option Addr) (cdv ct : Value) (us : List Value) (hl : us.length = (["one", "field", "other"] : List Str).length) : bindArgs (PySem.W.fnOf "pair_fact" "pair_fact" (zan zbg) (zak zbg) (zac zbg) .none kV doc pm an cdv ct) ⟨us, []⟩ = pure ((["one", "field", "other"] : List Str).zip us) :=
 zx1 (P:=fun us => bindArgs _ ⟨us, []⟩ = pure (List.zip _ us)) hl fun _ _ _ => rfl
theorem zvq (kV doc pm : Value) (an : Option Addr) (cdv ct : Value) (us : List Value) (hl : us.length = (["facts"] : List Str).length) : bindArgs (PySem.W.fnOf "tidy" "tidy" (zan zes) (zak zes) (zac zes) .none kV doc pm an cdv ct) ⟨us, []⟩ = pure ((["facts"] : List Str).zip us) :=
 zdd (P:=fun us => bindArgs _ ⟨us, []⟩ = pure (List.zip _ us)) hl fun _ => rfl
theorem zf8 (kV doc pm : Value) (an : Option Addr) (cdv ct : Value) (us : List Value) (hl : us.length = (["row"] : List Str).length) : bindArgs (PySem.W.fnOf "is_passed_by" "is_passed_by" (zan zaw) (zak zaw) (zac zaw) .none kV doc pm an cdv ct) ⟨us, []⟩ = pure ((["row"] : List Str).zip us) :=
 zdd (P:=fun us => bindArgs _ ⟨us, []⟩ = pure (List.zip _ us)) hl fun _ => rfl
theorem zjx (kV doc pm : Value) (an : Option Addr) (cdv ct : Value) (us : List Value) (hl : us.length = (["text"] : List Str).length) : bindArgs (PySem.W.fnOf "told_rows" "told_rows" (zan zbc) (zak zbc) (zac zbc) .none kV doc pm an cdv ct) ⟨us, []⟩ = pure ((["text"] : List Str).zip us) :=
 zdd (P:=fun us => bindArgs _ ⟨us, []⟩ = pure (List.zip _ us)) hl fun _ => rfl
theorem zni (kV doc pm : Value) (an : Option Addr) (cdv ct : Value) (us : List Value) (hl : us.length = (["row"] : List Str).length) : bindArgs (PySem.W.fnOf "fact_of" "fact_of" (zan zby) (zak zby) (zac zby) .none kV doc pm an cdv ct) ⟨us, []⟩ = pure ((["row"] : List Str).zip us) :=
 zdd (P:=fun us => bindArgs _ ⟨us, []⟩ = pure (List.zip _ us)) hl fun _ => rfl
theorem zfm (kV doc pm : Value) (an : Option Addr) (cdv ct : Value) (us : List Value) (hl : us.length = (["number", "row"] : List Str).length) : bindArgs (PySem.W.fnOf "numbered_fact" "numbered_fact" (zan zas) (zak zas) (zac zas) .none kV doc pm an cdv ct) ⟨us, []⟩ = pure ((["number", "row"] : List Str).zip us) :=
 zkr (P:=fun us => bindArgs _ ⟨us, []⟩ = pure (List.zip _ us)) hl fun _ _ => rfl
theorem zju (kV doc pm : Value) (an : Option Addr) (cdv ct : Value) (us : List Value) (hl : us.length = (["text"] : List Str).length) : bindArgs (PySem.W.fnOf "read_book" "read_book" (zan zbb) (zak zbb) (zac zbb) .none kV doc pm an cdv ct) ⟨us, []⟩ = pure ((["text"] : List Str).zip us) :=
 zdd (P:=fun us => bindArgs _ ⟨us, []⟩ = pure (List.zip _ us)) hl fun _ => rfl
theorem zhb (kV doc pm : Value) (an : Option Addr) (cdv ct : Value) (us : List Value) (hl : us.length = (["_law_script", "_law_k"] : List Str).length) : bindArgs (PySem.W.fnOf "_law_cell_at" "_law_cell_at" (zan za0) (zak za0) (zac za0) .none kV doc pm an cdv ct) ⟨us, []⟩ = pure ((["_law_script", "_law_k"] : List Str).zip us) :=
 zkr (P:=fun us => bindArgs _ ⟨us, []⟩ = pure (List.zip _ us)) hl fun _ _ => rfl
theorem zj7 (kV doc pm : Value) (an : Option Addr) (cdv ct : Value) (us : List Value) (hl : us.length = (["_law_found"] : List Str).length) : bindArgs (PySem.W.fnOf "_law_whole" "_law_whole" (zan zbf) (zak zbf) (zac zbf) .none kV doc pm an cdv ct) ⟨us, []⟩ = pure ((["_law_found"] : List Str).zip us) :=
 zdd (P:=fun us => bindArgs _ ⟨us, []⟩ = pure (List.zip _ us)) hl fun _ => rfl
theorem zh0 (kV doc pm : Value) (an : Option Addr) (cdv ct : Value) (us : List Value) (hl : us.length = (["_law_cell", "_law_many"] : List Str).length) : bindArgs (PySem.W.fnOf "_law_stream" "_law_stream" (zan za6) (zak za6) (zac za6) .none kV doc pm an cdv ct) ⟨us, []⟩ = pure ((["_law_cell", "_law_many"] : List Str).zip us) :=
 zkr (P:=fun us => bindArgs _ ⟨us, []⟩ = pure (List.zip _ us)) hl fun _ _ => rfl
theorem znt (kV doc pm : Value) (an : Option Addr) (cdv ct : Value) (us : List Value) (hl : us.length = (["_law_cell"] : List Str).length) : bindArgs (PySem.W.fnOf "_law_row" "_law_row" (zan zbv) (zak zbv) (zac zbv) .none kV doc pm an cdv ct) ⟨us, []⟩ = pure ((["_law_cell"] : List Str).zip us) :=
 zdd (P:=fun us => bindArgs _ ⟨us, []⟩ = pure (List.zip _ us)) hl fun _ => rfl
theorem zng (kV doc pm : Value) (an : Option Addr) (cdv ct : Value) (us : List Value) (hl : us.length = (["_law_draw"] : List Str).length) : bindArgs (PySem.W.fnOf "_law_bad" "_law_bad" (zan zbw) (zak zbw) (zac zbw) .none kV doc pm an cdv ct) ⟨us, []⟩ = pure ((["_law_draw"] : List Str).zip us) :=
 zdd (P:=fun us => bindArgs _ ⟨us, []⟩ = pure (List.zip _ us)) hl fun _ => rfl
theorem zg2 (kV doc pm : Value) (an : Option Addr) (cdv ct : Value) (us : List Value) (hl : us.length = (["_law_text", "_law_number"] : List Str).length) : bindArgs (PySem.W.fnOf "_law_refused" "_law_refused" (zan za2) (zak za2) (zac za2) .none kV doc pm an cdv ct) ⟨us, []⟩ = pure ((["_law_text", "_law_number"] : List Str).zip us) :=
 zkr (P:=fun us => bindArgs _ ⟨us, []⟩ = pure (List.zip _ us)) hl fun _ _ => rfl
theorem zxf (kV doc pm : Value) (an : Option Addr) (cdv ct : Value) (us : List Value) (hl : us.length = (["_law_script"] : List Str).length) : bindArgs (PySem.W.fnOf "law" "law" (zan zio) (zak zio) (zac zio) .none kV doc pm an cdv ct) ⟨us, []⟩ = pure ((["_law_script"] : List Str).zip us) :=
 zdd (P:=fun us => bindArgs _ ⟨us, []⟩ = pure (List.zip _ us)) hl fun _ => rfl
theorem all_mk {l : PySem.W.OpenLaw} {w : World} {K : PySem.W.Frag} {h : Heap} {mg : Str -> Option Value} {fa g0 g1 g2 g3 g4 g5 g6 g7 g8 g9 g10 g11 g12 g13 g14 g15 g16 g17 : Addr} (X : K.In h) (G : h.Ns mainGlobals mg) (hfa : mg "law" = some (.ref fa))
  {od0 an0 od1 an1 od2 an2 od3 an3 od4 an4 od5 an5 od6 an6 od7 an7 od8 an8 od9 an9 od10 an10 od11 an11 od12 an12 od13 an13 od14 an14 od15 an15 od16 an16 od17 an17 : Option Addr} {sl0 sl1 sl2 sl3 sl4 sl5 sl6 sl7 sl8 sl9 sl10 sl11 sl12 sl13 sl14 sl15 sl16 sl17 : Array (Option Value)} {oc0 kV0 dc0 pm0 cd0 ct0 oc1 kV1 dc1 pm1 cd1 ct1 oc2 kV2 dc2 pm2 cd2 ct2 oc3 kV3 dc3 pm3 cd3 ct3 oc4 kV4 dc4 pm4 cd4 ct4 oc5 kV5 dc5 pm5 cd5 ct5 oc6 kV6 dc6 pm6 cd6 ct6 oc7 kV7 dc7 pm7 cd7 ct7 oc8 kV8 dc8 pm8 cd8 ct8 oc9 kV9 dc9 pm9 cd9 ct9 oc10 kV10 dc10 pm10 cd10 ct10 oc11 kV11 dc11 pm11 cd11 ct11 oc12 kV12 dc12 pm12 cd12 ct12 oc13 kV13 dc13 pm13 cd13 ct13 oc14 kV14 dc14 pm14 cd14 ct14 oc15 kV15 dc15 pm15 cd15 ct15 oc16 kV16 dc16 pm16 cd16 ct16 oc17 kV17 dc17 pm17 cd17 ct17 : Value}
  {q_FolkError : Addr} {q_NoName : Addr} {q_NoPair : Addr} {q_NoRow : Addr} {q_NoText : Addr} {q_FIELDS : Addr} {od_FIELDS : Option Addr} {nn_FIELDS : Nat} {sl_FIELDS : Array (Option Value)} {t0_FIELDS t1_FIELDS t2_FIELDS t3_FIELDS t4_FIELDS : Tok} {q_PAIR_FIELDS : Addr} {od_PAIR_FIELDS : Option Addr} {nn_PAIR_FIELDS : Nat} {sl_PAIR_FIELDS : Array (Option Value)} {t0_PAIR_FIELDS t1_PAIR_FIELDS : Tok} {t_LETTERS : Tok} {t_LONGEST_NAME : Tok} {t_LONGEST_TEXT : Tok} {t_NO_SIGN : Tok}
  (l0 : K.lookup g0 = some ⟨oc0, od0, .func (PySem.W.fnOf "__init__" "NoRow.__init__" (zan za7) (zak za7) (zac za7) .none kV0 dc0 pm0 an0 cd0 ct0), sl0⟩) (c0 : PySem.W.codeIn K cd0 "NoRow.__init__" = true) (k0 : PySem.W.keepIn K (.ref g0) = true) (mf0 : PySem.W.isFn K (.ref g0) = true)
  (a1 : PySem.W.nsIn K mainGlobals "is_name" = some (some (.ref g1))) (l1 : K.lookup g1 = some ⟨oc1, od1, .func (PySem.W.fnOf "is_name" "is_name" (zan zbr) (zak zbr) (zac zbr) .none kV1 dc1 pm1 an1 cd1 ct1), sl1⟩) (c1 : PySem.W.codeIn K cd1 "is_name" = true) (k1 : PySem.W.keepIn K (.ref g1) = true)
  (a2 : PySem.W.nsIn K mainGlobals "is_sign" = some (some (.ref g2))) (l2 : K.lookup g2 = some ⟨oc2, od2, .func (PySem.W.fnOf "is_sign" "is_sign" (zan zbz) (zak zbz) (zac zbz) .none kV2 dc2 pm2 an2 cd2 ct2), sl2⟩) (c2 : PySem.W.codeIn K cd2 "is_sign" = true) (k2 : PySem.W.keepIn K (.ref g2) = true)
  (a3 : PySem.W.nsIn K mainGlobals "is_text" = some (some (.ref g3))) (l3 : K.lookup g3 = some ⟨oc3, od3, .func (PySem.W.fnOf "is_text" "is_text" (zan zbs) (zak zbs) (zac zbs) .none kV3 dc3 pm3 an3 cd3 ct3), sl3⟩) (c3 : PySem.W.codeIn K cd3 "is_text" = true) (k3 : PySem.W.keepIn K (.ref g3) = true)
  (a4 : PySem.W.nsIn K mainGlobals "pair_fact" = some (some (.ref g4))) (l4 : K.lookup g4 = some ⟨oc4, od4, .func (PySem.W.fnOf "pair_fact" "pair_fact" (zan zbg) (zak zbg) (zac zbg) .none kV4 dc4 pm4 an4 cd4 ct4), sl4⟩) (c4 : PySem.W.codeIn K cd4 "pair_fact" = true) (k4 : PySem.W.keepIn K (.ref g4) = true)
  (a5 : PySem.W.nsIn K mainGlobals "tidy" = some (some (.ref g5))) (l5 : K.lookup g5 = some ⟨oc5, od5, .func (PySem.W.fnOf "tidy" "tidy" (zan zes) (zak zes) (zac zes) .none kV5 dc5 pm5 an5 cd5 ct5), sl5⟩) (c5 : PySem.W.codeIn K cd5 "tidy" = true) (k5 : PySem.W.keepIn K (.ref g5) = true)
  (a6 : PySem.W.nsIn K mainGlobals "is_passed_by" = some (some (.ref g6))) (l6 : K.lookup g6 = some ⟨oc6, od6, .func (PySem.W.fnOf "is_passed_by" "is_passed_by" (zan zaw) (zak zaw) (zac zaw) .none kV6 dc6 pm6 an6 cd6 ct6), sl6⟩) (c6 : PySem.W.codeIn K cd6 "is_passed_by" = true) (k6 : PySem.W.keepIn K (.ref g6) = true)
  (a7 : PySem.W.nsIn K mainGlobals "told_rows" = some (some (.ref g7))) (l7 : K.lookup g7 = some ⟨oc7, od7, .func (PySem.W.fnOf "told_rows" "told_rows" (zan zbc) (zak zbc) (zac zbc) .none kV7 dc7 pm7 an7 cd7 ct7), sl7⟩) (c7 : PySem.W.codeIn K cd7 "told_rows" = true) (k7 : PySem.W.keepIn K (.ref g7) = true)
  (a8 : PySem.W.nsIn K mainGlobals "fact_of" = some (some (.ref g8))) (l8 : K.lookup g8 = some ⟨oc8, od8, .func (PySem.W.fnOf "fact_of" "fact_of" (zan zby) (zak zby) (zac zby) .none kV8 dc8 pm8 an8 cd8 ct8), sl8⟩) (c8 : PySem.W.codeIn K cd8 "fact_of" = true) (k8 : PySem.W.keepIn K (.ref g8) = true)
  (a9 : PySem.W.nsIn K mainGlobals "numbered_fact" = some (some (.ref g9))) (l9 : K.lookup g9 = some ⟨oc9, od9, .func (PySem.W.fnOf "numbered_fact" "numbered_fact" (zan zas) (zak zas) (zac zas) .none kV9 dc9 pm9 an9 cd9 ct9), sl9⟩) (c9 : PySem.W.codeIn K cd9 "numbered_fact" = true) (k9 : PySem.W.keepIn K (.ref g9) = true)
  (a10 : PySem.W.nsIn K mainGlobals "read_book" = some (some (.ref g10))) (l10 : K.lookup g10 = some ⟨oc10, od10, .func (PySem.W.fnOf "read_book" "read_book" (zan zbb) (zak zbb) (zac zbb) .none kV10 dc10 pm10 an10 cd10 ct10), sl10⟩) (c10 : PySem.W.codeIn K cd10 "read_book" = true) (k10 : PySem.W.keepIn K (.ref g10) = true)
  (a11 : PySem.W.nsIn K mainGlobals "_law_cell_at" = some (some (.ref g11))) (l11 : K.lookup g11 = some ⟨oc11, od11, .func (PySem.W.fnOf "_law_cell_at" "_law_cell_at" (zan za0) (zak za0) (zac za0) .none kV11 dc11 pm11 an11 cd11 ct11), sl11⟩) (c11 : PySem.W.codeIn K cd11 "_law_cell_at" = true) (k11 : PySem.W.keepIn K (.ref g11) = true)
  (a12 : PySem.W.nsIn K mainGlobals "_law_whole" = some (some (.ref g12))) (l12 : K.lookup g12 = some ⟨oc12, od12, .func (PySem.W.fnOf "_law_whole" "_law_whole" (zan zbf) (zak zbf) (zac zbf) .none kV12 dc12 pm12 an12 cd12 ct12), sl12⟩) (c12 : PySem.W.codeIn K cd12 "_law_whole" = true) (k12 : PySem.W.keepIn K (.ref g12) = true)
  (a13 : PySem.W.nsIn K mainGlobals "_law_stream" = some (some (.ref g13))) (l13 : K.lookup g13 = some ⟨oc13, od13, .func (PySem.W.fnOf "_law_stream" "_law_stream" (zan za6) (zak za6) (zac za6) .none kV13 dc13 pm13 an13 cd13 ct13), sl13⟩) (c13 : PySem.W.codeIn K cd13 "_law_stream" = true) (k13 : PySem.W.keepIn K (.ref g13) = true)
  (a14 : PySem.W.nsIn K mainGlobals "_law_row" = some (some (.ref g14))) (l14 : K.lookup g14 = some ⟨oc14, od14, .func (PySem.W.fnOf "_law_row" "_law_row" (zan zbv) (zak zbv) (zac zbv) .none kV14 dc14 pm14 an14 cd14 ct14), sl14⟩) (c14 : PySem.W.codeIn K cd14 "_law_row" = true) (k14 : PySem.W.keepIn K (.ref g14) = true)
  (a15 : PySem.W.nsIn K mainGlobals "_law_bad" = some (some (.ref g15))) (l15 : K.lookup g15 = some ⟨oc15, od15, .func (PySem.W.fnOf "_law_bad" "_law_bad" (zan zbw) (zak zbw) (zac zbw) .none kV15 dc15 pm15 an15 cd15 ct15), sl15⟩) (c15 : PySem.W.codeIn K cd15 "_law_bad" = true) (k15 : PySem.W.keepIn K (.ref g15) = true)
  (a16 : PySem.W.nsIn K mainGlobals "_law_refused" = some (some (.ref g16))) (l16 : K.lookup g16 = some ⟨oc16, od16, .func (PySem.W.fnOf "_law_refused" "_law_refused" (zan za2) (zak za2) (zac za2) .none kV16 dc16 pm16 an16 cd16 ct16), sl16⟩) (c16 : PySem.W.codeIn K cd16 "_law_refused" = true) (k16 : PySem.W.keepIn K (.ref g16) = true)
  (a17 : PySem.W.nsIn K mainGlobals "law" = some (some (.ref g17))) (l17 : K.lookup g17 = some ⟨oc17, od17, .func (PySem.W.fnOf "law" "law" (zan zio) (zak zio) (zac zio) .none kV17 dc17 pm17 an17 cd17 ct17), sl17⟩) (c17 : PySem.W.codeIn K cd17 "law" = true) (k17 : PySem.W.keepIn K (.ref g17) = true)
  (a_FolkError : PySem.W.nsIn K mainGlobals "FolkError" = some (some (.ref q_FolkError)))
  (a_NoName : PySem.W.nsIn K mainGlobals "NoName" = some (some (.ref q_NoName)))
  (a_NoPair : PySem.W.nsIn K mainGlobals "NoPair" = some (some (.ref q_NoPair)))
  (a_NoRow : PySem.W.nsIn K mainGlobals "NoRow" = some (some (.ref q_NoRow)))
  (a_NoText : PySem.W.nsIn K mainGlobals "NoText" = some (some (.ref q_NoText)))
  (me_NoRow_init : PySem.W.findIn K (.ref q_NoRow) "__init__" = some (some (.ref g0))) (xi_NoRow : L2.excInI K q_NoRow L2.vmro "ValueError.__new__" g0 = true) (mc_NoRow : PySem.W.keepIn K (.ref q_NoRow) = true)
  (xs0_NoRow : PySem.W.findIn K (.ref q_NoRow) "__setattr__" = some (some (.builtin "object.__setattr__")))
  (xs1_NoRow : PySem.W.findIn K (.ref q_NoRow) "row" = some none)
  (xs2_NoRow : PySem.W.mroIn K q_NoRow (.type "object") = some true)
  (xs3_NoRow : PySem.W.hasDictIn K q_NoRow = true)
  (xi4_NoRow : ((PySem.W.clsIn K q_NoRow).any fun cd => L2.vtail cd.mro) = true)
  (cb0_FolkError : PySem.W.specialIn K (.ref q_FolkError) "__getattribute__" = some (some (.builtin "type.__getattribute__"))) (cb1_FolkError : PySem.W.readsIn K q_FolkError (.type "type") = true) (cb2_FolkError : PySem.W.findCls K (.ref q_FolkError) (.type "type") "__init__" = some (.val (.builtin "ValueError.__init__")))
  (t0_NoRow : PySem.W.findIn K (.ref q_NoRow) "__getattribute__" = some (some (.builtin "BaseException.__getattribute__")))
  (t1_NoRow : PySem.W.findIn K (.ref q_NoRow) "__getattr__" = some none)
  (t2_NoRow : PySem.W.mroIn K q_NoRow (.type "BaseException") = some true)
  (t3_NoRow : PySem.W.findIn K (.ref q_NoRow) "__class__" = some (some (.builtin "object.__class__")))
  (t4_NoRow : PySem.W.specialIn K (.builtin "object.__class__") "__get__" = some (some (.builtin "getset_descriptor.__get__")))
  (t5_NoRow : PySem.W.takesIn K (.builtin "object.__class__") = some true)
  (t6_NoRow : PySem.W.mroIn K q_NoRow (.type "object") = some true)
  (t7_NoRow : PySem.W.hasDictIn K q_NoRow = true)
  (h_NoRow_NoRow : PySem.W.exmOne K (.ref q_NoRow) (.ref q_NoRow) = some true)
  (h_NoRow_FolkError : PySem.W.exmOne K (.ref q_NoRow) (.ref q_FolkError) = some true)
  (i_NoRow_ValueError : PySem.W.kitOne K (.ref q_NoRow) (.type "ValueError") = some true)
  (i_NoRow_NoRow : PySem.W.kitOne K (.ref q_NoRow) (.ref q_NoRow) = some true)
  (i_NoRow_NoName : PySem.W.kitOne K (.ref q_NoRow) (.ref q_NoName) = some false)
  (i_NoRow_NoText : PySem.W.kitOne K (.ref q_NoRow) (.ref q_NoText) = some false)
  (i_NoRow_NoPair : PySem.W.kitOne K (.ref q_NoRow) (.ref q_NoPair) = some false)
  (na_NoRow_row : PySem.W.findIn K (.ref q_NoRow) "row" = some none)
  (a_FIELDS : PySem.W.nsIn K mainGlobals "FIELDS" = some (some (.ref q_FIELDS))) (l_FIELDS : K.lookup q_FIELDS = some ⟨.type "tuple", od_FIELDS, .seq #[.str (T [110, 97, 109, 101]) t0_FIELDS, .str (T [102, 111, 114, 109, 101, 114]) t1_FIELDS, .str (T [119, 97, 121]) t2_FIELDS, .str (T [100, 97, 121]) t3_FIELDS, .str (T [109, 97, 114, 107]) t4_FIELDS] nn_FIELDS, sl_FIELDS⟩)
  (a_PAIR_FIELDS : PySem.W.nsIn K mainGlobals "PAIR_FIELDS" = some (some (.ref q_PAIR_FIELDS))) (l_PAIR_FIELDS : K.lookup q_PAIR_FIELDS = some ⟨.type "tuple", od_PAIR_FIELDS, .seq #[.str (T [115, 97, 109, 101]) t0_PAIR_FIELDS, .str (T [97, 112, 97, 114, 116]) t1_PAIR_FIELDS] nn_PAIR_FIELDS, sl_PAIR_FIELDS⟩)
  (a_LETTERS : PySem.W.nsIn K mainGlobals "LETTERS" = some (some (.str (T [97, 98, 99, 100, 101, 102, 103, 104, 105, 106, 107, 108, 109, 110, 111, 112, 113, 114, 115, 116, 117, 118, 119, 120, 121, 122]) t_LETTERS)))
  (a_LONGEST_NAME : PySem.W.nsIn K mainGlobals "LONGEST_NAME" = some (some (.int 12 t_LONGEST_NAME)))
  (a_LONGEST_TEXT : PySem.W.nsIn K mainGlobals "LONGEST_TEXT" = some (some (.int 40 t_LONGEST_TEXT)))
  (a_NO_SIGN : PySem.W.nsIn K mainGlobals "NO_SIGN" = some (some (.int 37 t_NO_SIGN)))
  (y_ValueError : PySem.W.nsIn K mainGlobals "ValueError" = some none)
  (y_all : PySem.W.nsIn K mainGlobals "all" = some none)
  (y_bool : PySem.W.nsIn K mainGlobals "bool" = some none)
  (y_enumerate : PySem.W.nsIn K mainGlobals "enumerate" = some none)
  (y_int : PySem.W.nsIn K mainGlobals "int" = some none)
  (y_isinstance : PySem.W.nsIn K mainGlobals "isinstance" = some none)
  (y_len : PySem.W.nsIn K mainGlobals "len" = some none)
  (y_list : PySem.W.nsIn K mainGlobals "list" = some none)
  (y_max : PySem.W.nsIn K mainGlobals "max" = some none)
  (y_min : PySem.W.nsIn K mainGlobals "min" = some none)
  (y_ord : PySem.W.nsIn K mainGlobals "ord" = some none)
  (y_range : PySem.W.nsIn K mainGlobals "range" = some none)
  (y_set : PySem.W.nsIn K mainGlobals "set" = some none)
  (y_sorted : PySem.W.nsIn K mainGlobals "sorted" = some none)
  (y_str : PySem.W.nsIn K mainGlobals "str" = some none)
  (y_tuple : PySem.W.nsIn K mainGlobals "tuple" = some none) :
  ∃ fd : FuncData, (∀ (s : Shared) (v : Value), BindsTo s fd ⟨[v], []⟩ [("_law_script", v)]) /\ ∀ base : Heap, K.In base -> base.Ns mainGlobals mg -> FnOk l.prog w K mg base CX0 21 fa fd ["_law_script"] (zso K) := by
 have e := hfa.symm.trans (PySem.W.mg_of X G a17)
 cases e
 have F0 := zb2 (st:=za7) l0 c0 k0
 have b0 := F0.binds (ps:=["self", "row"]) zh2
 have F1 := zb2 (st:=zbr) l1 c1 k1
 have b1 := F1.binds (ps:=["text"]) zn6
 have F2 := zb2 (st:=zbz) l2 c2 k2
 have b2 := F2.binds (ps:=["sign"]) zoa
 have F3 := zb2 (st:=zbs) l3 c3 k3
 have b3 := F3.binds (ps:=["text"]) znx
 have F4 := zb2 (st:=zbg) l4 c4 k4
 have b4 := F4.binds (ps:=["one", "field", "other"]) zjy
 have F5 := zb2 (st:=zes) l5 c5 k5
 have b5 := F5.binds (ps:=["facts"]) zvq
 have F6 := zb2 (st:=zaw) l6 c6 k6
 have b6 := F6.binds (ps:=["row"]) zf8
 have F7 := zb2 (st:=zbc) l7 c7 k7
 have b7 := F7.binds (ps:=["text"]) zjx
 have F8 := zb2 (st:=zby) l8 c8 k8
 have b8 := F8.binds (ps:=["row"]) zni
 have F9 := zb2 (st:=zas) l9 c9 k9
 have b9 := F9.binds (ps:=["number", "row"]) zfm
 have F10 := zb2 (st:=zbb) l10 c10 k10
 have b10 := F10.binds (ps:=["text"]) zju
 have F11 := zb2 (st:=za0) l11 c11 k11
 have b11 := F11.binds (ps:=["_law_script", "_law_k"]) zhb
 have F12 := zb2 (st:=zbf) l12 c12 k12
 have b12 := F12.binds (ps:=["_law_found"]) zj7
 have F13 := zb2 (st:=za6) l13 c13 k13
 have b13 := F13.binds (ps:=["_law_cell", "_law_many"]) zh0
 have F14 := zb2 (st:=zbv) l14 c14 k14
 have b14 := F14.binds (ps:=["_law_cell"]) znt
 have F15 := zb2 (st:=zbw) l15 c15 k15
 have b15 := F15.binds (ps:=["_law_draw"]) zng
 have F16 := zb2 (st:=za2) l16 c16 k16
 have b16 := F16.binds (ps:=["_law_text", "_law_number"]) zg2
 have F17 := zb2 (st:=zio) l17 c17 k17
 have b17 := F17.binds (ps:=["_law_script"]) zxf
 exact ⟨_, fun s v => .of_eq rfl, fun base _ _ => zwx (ad0:=⟨q_FolkError, q_NoName, q_NoPair, q_NoRow, q_NoText, q_FIELDS, q_PAIR_FIELDS, g0, g1, g2, g3, g4, g5, g6, g7, g8, g9, g10, g11, g12, g13, g14, g15, g16, _, _, _, _, _, _, _, _, _, _, _, _, _, _, _, _, _, _, _, _, _, _, _⟩) ⟨PySem.W.mg_of X G a_FolkError, PySem.W.mg_of X G a_NoName, PySem.W.mg_of X G a_NoPair, PySem.W.mg_of X G a_NoRow, PySem.W.mg_of X G a_NoText, ⟨xi_NoRow, mf0, mc_NoRow⟩, ⟨xs0_NoRow, xs1_NoRow, xs2_NoRow, xs3_NoRow, xi4_NoRow⟩, ⟨cb0_FolkError, cb1_FolkError, cb2_FolkError⟩, ⟨t0_NoRow, t1_NoRow, t2_NoRow, t3_NoRow, t4_NoRow, t5_NoRow, t6_NoRow, t7_NoRow⟩, h_NoRow_NoRow, h_NoRow_FolkError, i_NoRow_ValueError, i_NoRow_NoRow, i_NoRow_NoName, i_NoRow_NoText, i_NoRow_NoPair, na_NoRow_row, PySem.W.mg_of X G a_FIELDS, zrj l_FIELDS rfl rfl rfl (by decide) (by decide) (fun i l u h1 h2 => by rcases i with _ | _ | _ | _ | _ | i <;> simp at h1 h2 <;> (subst h1; subst h2; exact ⟨_, rfl⟩)), PySem.W.mg_of X G a_PAIR_FIELDS, zrj l_PAIR_FIELDS rfl rfl rfl (by decide) (by decide) (fun i l u h1 h2 => by rcases i with _ | _ | i <;> simp at h1 h2 <;> (subst h1; subst h2; exact ⟨_, rfl⟩)), PySem.W.mg_of X G a_LETTERS, ⟨_, rfl⟩, PySem.W.mg_of X G a_LONGEST_NAME, ⟨_, rfl⟩, PySem.W.mg_of X G a_LONGEST_TEXT, ⟨_, rfl⟩, PySem.W.mg_of X G a_NO_SIGN, ⟨_, rfl⟩, F0, b0, F1, b1, PySem.W.mg_of X G a1, F2, b2, PySem.W.mg_of X G a2, F3, b3, PySem.W.mg_of X G a3, F4, b4, PySem.W.mg_of X G a4, F5, b5, PySem.W.mg_of X G a5, F6, b6, PySem.W.mg_of X G a6, F7, b7, PySem.W.mg_of X G a7, F8, b8, PySem.W.mg_of X G a8, F9, b9, PySem.W.mg_of X G a9, F10, b10, PySem.W.mg_of X G a10, F11, b11, PySem.W.mg_of X G a11, F12, b12, PySem.W.mg_of X G a12, F13, b13, PySem.W.mg_of X G a13, F14, b14, PySem.W.mg_of X G a14, F15, b15, PySem.W.mg_of X G a15, F16, b16, PySem.W.mg_of X G a16, F17, b17, PySem.W.mg_of X G a17, PySem.W.mg_none_of X G y_ValueError, PySem.W.mg_none_of X G y_all, PySem.W.mg_none_of X G y_bool, PySem.W.mg_none_of X G y_enumerate, PySem.W.mg_none_of X G y_int, PySem.W.mg_none_of X G y_isinstance, PySem.W.mg_none_of X G y_len, PySem.W.mg_none_of X G y_list, PySem.W.mg_none_of X G y_max, PySem.W.mg_none_of X G y_min, PySem.W.mg_none_of X G y_ord, PySem.W.mg_none_of X G y_range, PySem.W.mg_none_of X G y_set, PySem.W.mg_none_of X G y_sorted, PySem.W.mg_none_of X G y_str, PySem.W.mg_none_of X G y_tuple⟩⟩
theorem walk {l : PySem.W.OpenLaw} {q : Program} {loose : List Str} {XP : (Str -> Option Value) -> Heap -> Prop} {YP : World -> Heap -> Prop} {d : DefRec} {K : Params -> PySem.W.Frag} (hn : l.most = some 63) (hdf : d.params.defaults = [])
  (hY : ∀ (w : World) (h : Heap), YP w h -> (K w.params).In h)
  (F : ∀ (w : World) (mg : Str -> Option Value) (fa : Addr) (h : Heap), (K w.params).In h -> h.Ns mainGlobals mg -> mg d.name = some (.ref fa) ->
   ∃ fd : FuncData, (∀ (s : Shared) (u : Value), BindsTo s fd ⟨[u], []⟩ [("_law_script", u)]) /\ ∀ base : Heap, (K w.params).In base -> base.Ns mainGlobals mg -> FnOk l.prog w (K w.params) mg base CX0 21 fa fd ["_law_script"] (zso (K w.params))) :
  PySem.W.WalkO q loose XP YP l.row.toRowW d [] (fun f vs => PySem.call f vs) :=
 L2.walk_of (n:=63) (k:=21) (x:="_law_script") (CX:=fun _ => CX0) (sp:=fun w => zso (K w.params)) hn (by decide) hdf ⟨rfl, by decide, by decide, rfl⟩ hY F (fun _ _ a ns hl _ hS => ⟨a, ns, rfl, hS, hl, fun _ => rfl⟩) fun _ _ _ _ _ z => z
end My
noncomputable def PySem.W.Fast.tw16751954456741903740 : Unit := ()
open PySem PySem.W PyProof.Rows
set_option maxRecDepth 100000 in
set_option maxHeartbeats 0 in
theorem PySem.Challenge.cw_folk_k12_texts_of_books_refused_holds : PySem.Challenge.rw_folk_k12_texts_of_books_refused.Holds := by
 w_on; o_law; k_head; (case hw => w_witness2)
 k_fill
 refine My.walk (l:=PySem.Challenge.rw_folk_k12_texts_of_books_refused) rfl rfl (fun w h Y => PySem.W.kIn_of Y) ?F
 case F =>
  intro w mg fa h KX G hmg
  refine' My.all_mk KX G hmg ?l0 ?c0 ?k0 ?mf0 ?a1 ?l1 ?c1 ?k1 ?a2 ?l2 ?c2 ?k2 ?a3 ?l3 ?c3 ?k3 ?a4 ?l4 ?c4 ?k4 ?a5 ?l5 ?c5 ?k5 ?a6 ?l6 ?c6 ?k6 ?a7 ?l7 ?c7 ?k7 ?a8 ?l8 ?c8 ?k8 ?a9 ?l9 ?c9 ?k9 ?a10 ?l10 ?c10 ?k10 ?a11 ?l11 ?c11 ?k11 ?a12 ?l12 ?c12 ?k12 ?a13 ?l13 ?c13 ?k13 ?a14 ?l14 ?c14 ?k14 ?a15 ?l15 ?c15 ?k15 ?a16 ?l16 ?c16 ?k16 ?a17 ?l17 ?c17 ?k17 ?a_FolkError ?a_NoName ?a_NoPair ?a_NoRow ?a_NoText ?me_NoRow_init ?xi_NoRow ?mc_NoRow ?xs0_NoRow ?xs1_NoRow ?xs2_NoRow ?xs3_NoRow ?xi4_NoRow ?cb0_FolkError ?cb1_FolkError ?cb2_FolkError ?t0_NoRow ?t1_NoRow ?t2_NoRow ?t3_NoRow ?t4_NoRow ?t5_NoRow ?t6_NoRow ?t7_NoRow ?h_NoRow_NoRow ?h_NoRow_FolkError ?i_NoRow_ValueError ?i_NoRow_NoRow ?i_NoRow_NoName ?i_NoRow_NoText ?i_NoRow_NoPair ?na_NoRow_row ?a_FIELDS ?l_FIELDS ?a_PAIR_FIELDS ?l_PAIR_FIELDS ?a_LETTERS ?a_LONGEST_NAME ?a_LONGEST_TEXT ?a_NO_SIGN ?y_ValueError ?y_all ?y_bool ?y_enumerate ?y_int ?y_isinstance ?y_len ?y_list ?y_max ?y_min ?y_ord ?y_range ?y_set ?y_sorted ?y_str ?y_tuple
  (case a_FolkError => k_is)
  (case a_NoName => k_is)
  (case a_NoPair => k_is)
  (case a_NoRow => k_is)
  (case a_NoText => k_is)
  (case me_NoRow_init => k_is)
  (case a_FIELDS => k_is)
  (case a_PAIR_FIELDS => k_is)
  (case a_LETTERS => k_is)
  (case a_LONGEST_NAME => k_is)
  (case a_LONGEST_TEXT => k_is)
  (case a_NO_SIGN => k_is)
  (case l0 => k_is)
  (case c0 => k_is)
  (case k0 => k_is)
  (case mf0 => k_is)
  (case a1 => k_is)
  (case l1 => k_is)
  (case c1 => k_is)
  (case k1 => k_is)
  (case a2 => k_is)
  (case l2 => k_is)
  (case c2 => k_is)
  (case k2 => k_is)
  (case a3 => k_is)
  (case l3 => k_is)
  (case c3 => k_is)
  (case k3 => k_is)
  (case a4 => k_is)
  (case l4 => k_is)
  (case c4 => k_is)
  (case k4 => k_is)
  (case a5 => k_is)
  (case l5 => k_is)
  (case c5 => k_is)
  (case k5 => k_is)
  (case a6 => k_is)
  (case l6 => k_is)
  (case c6 => k_is)
  (case k6 => k_is)
  (case a7 => k_is)
  (case l7 => k_is)
  (case c7 => k_is)
  (case k7 => k_is)
  (case a8 => k_is)
  (case l8 => k_is)
  (case c8 => k_is)
  (case k8 => k_is)
  (case a9 => k_is)
  (case l9 => k_is)
  (case c9 => k_is)
  (case k9 => k_is)
  (case a10 => k_is)
  (case l10 => k_is)
  (case c10 => k_is)
  (case k10 => k_is)
  (case a11 => k_is)
  (case l11 => k_is)
  (case c11 => k_is)
  (case k11 => k_is)
  (case a12 => k_is)
  (case l12 => k_is)
  (case c12 => k_is)
  (case k12 => k_is)
  (case a13 => k_is)
  (case l13 => k_is)
  (case c13 => k_is)
  (case k13 => k_is)
  (case a14 => k_is)
  (case l14 => k_is)
  (case c14 => k_is)
  (case k14 => k_is)
  (case a15 => k_is)
  (case l15 => k_is)
  (case c15 => k_is)
  (case k15 => k_is)
  (case a16 => k_is)
  (case l16 => k_is)
  (case c16 => k_is)
  (case k16 => k_is)
  (case a17 => k_is)
  (case l17 => k_is)
  (case c17 => k_is)
  (case k17 => k_is)
  (case xi_NoRow => kernel_rfl)
  (case mc_NoRow => k_is)
  (case xs0_NoRow => k_is)
  (case xs1_NoRow => k_is)
  (case xs2_NoRow => k_is)
  (case xs3_NoRow => k_is)
  (case xi4_NoRow => kernel_rfl)
  (case cb0_FolkError => k_is)
  (case cb1_FolkError => k_is)
  (case cb2_FolkError => k_is)
  (case t0_NoRow => k_is)
  (case t1_NoRow => k_is)
  (case t2_NoRow => k_is)
  (case t3_NoRow => k_is)
  (case t4_NoRow => k_is)
  (case t5_NoRow => k_is)
  (case t6_NoRow => k_is)
  (case t7_NoRow => k_is)
  (case h_NoRow_NoRow => kts_exm)
  (case h_NoRow_FolkError => kts_exm)
  (case i_NoRow_ValueError => kit_is)
  (case i_NoRow_NoRow => kit_is)
  (case i_NoRow_NoName => kit_is)
  (case i_NoRow_NoText => kit_is)
  (case i_NoRow_NoPair => kit_is)
  (case na_NoRow_row => k_is)
  (case l_FIELDS => k_is)
  (case l_PAIR_FIELDS => k_is)
  (case y_ValueError => k_is)
  (case y_all => k_is)
  (case y_bool => k_is)
  (case y_enumerate => k_is)
  (case y_int => k_is)
  (case y_isinstance => k_is)
  (case y_len => k_is)
  (case y_list => k_is)
  (case y_max => k_is)
  (case y_min => k_is)
  (case y_ord => k_is)
  (case y_range => k_is)
  (case y_set => k_is)
  (case y_sorted => k_is)
  (case y_str => k_is)
  (case y_tuple => k_is)
