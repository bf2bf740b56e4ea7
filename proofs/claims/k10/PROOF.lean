import PyProof.Rows.All
import Wide.All
import OpenK.AllK
import Wide.FinOn
import Lean
import PyProof.EqAt
import PyProof.EqKinds
import PyProof.TupleCall
import KE.KSortTup
import PySem.SetTable
import KE.KDictList
import PyProof.Rows.SeqMore
import PyProof.StrLawsIn
import PyProof.MeetsStr3
import PyProof.Rows.StrSplitMax
import KE.KDictLaws
import PyProof.Rows.CallKwBuiltin
import PyProof.ZipIter
import PyProof.Rows.ZipGen
import PyProof.Rows.StrWeight2
import KE.KDictSum
import KE.KTryMore
import PyProof.Rows.TopTwo
import PyProof.ExcBaseAll.ValueError
import KE.RegKIsAll
import KE.RegKTryMore
import PyProof.ExcAttrAll.ValueError
import PyProof.Rows.StrDouble
import PyProof.ExcInit
import OpenK.KCls
import PyProof.Rows.FStr
import PyProof.Rows.FStrParts
import PyProof.InstStoreFacts
import OpenK.KMake
import PyProof.Logic
import PyProof.Rows.StrJoinMade
import PySem.Challenge.RW_folk_k10_rows_refused
set_option Elab.async false
set_option linter.all false
set_option maxRecDepth 100000
namespace L2
open PySem PySem.Spec PyProof.Rows

abbrev Key := Sum Int Str
def keyIs : Key → Value → Bool
  | .inl k, v => Value.isInt k v
  | .inr x, v => Value.isStrOf x v
def keyH (w : World) : Key → Int
  | .inl k => hashInt k
  | .inr x => hashStr w x
theorem keyIs_shape : ∀ {k : Key} {v : Value}, keyIs k v = true → (∃ i t, k = Sum.inl i ∧ v = Value.int i t) ∨ (∃ x t, k = Sum.inr x ∧ v = Value.str x t)
  | .inl i, v, h => by
    obtain ⟨t, e⟩ := Value.isInt_shape (k := i) (v := v) h
    exact .inl ⟨i, t, rfl, e⟩
  | .inr x, v, h => by
    obtain ⟨t, e⟩ := Value.isStrOf_shape (x := x) (v := v) h
    exact .inr ⟨x, t, rfl, e⟩
theorem key_ll (a b : Int) : decide ((Sum.inl a : Key) = Sum.inl b) = (a == b) := by
  by_cases e : a = b
  · subst e; simp
  · have h : ¬ (Sum.inl a : Key) = Sum.inl b := fun q => e (Sum.inl.inj q)
    rw [decide_eq_false h]
    exact (beq_eq_false_iff_ne.mpr e).symm
theorem key_rr (a b : Str) : decide ((Sum.inr a : Key) = Sum.inr b) = decide (a = b) := by
  by_cases e : a = b
  · subst e; simp
  · have h : ¬ (Sum.inr a : Key) = Sum.inr b := fun q => e (Sum.inr.inj q)
    rw [decide_eq_false h, decide_eq_false e]
theorem key_lr (a : Int) (b : Str) : decide ((Sum.inl a : Key) = Sum.inr b) = false := decide_eq_false (fun q => nomatch q)
theorem key_rl (a : Str) (b : Int) : decide ((Sum.inr a : Key) = Sum.inl b) = false := decide_eq_false (fun q => nomatch q)

def mixKind (prog : Program) (w : World) : PySem.KeyKind prog w Key where
  is := keyIs
  hash := keyH w
  inj := fun v a b ha hb => by
    rcases keyIs_shape ha with ⟨i, t, rfl, rfl⟩ | ⟨x, t, rfl, rfl⟩
    · rcases keyIs_shape hb with ⟨j, u, rfl, e⟩ | ⟨y, u, rfl, e⟩
      · injection e with e1 _; rw [e1]
      · exact nomatch e
    · rcases keyIs_shape hb with ⟨j, u, rfl, e⟩ | ⟨y, u, rfl, e⟩
      · exact nomatch e
      · injection e with e1 _; rw [e1]
  byValue := fun k v h => by
    rcases keyIs_shape h with ⟨i, t, rfl, rfl⟩ | ⟨x, t, rfl, rfl⟩ <;> rfl
  pyHash := fun hv h => by
    rcases keyIs_shape hv with ⟨i, t, rfl, rfl⟩ | ⟨x, t, rfl, rfl⟩
    · exact wpAny_pyHash_int h
    · exact wpAny_pyHash_str h
  eqBool := fun hu hv h => by
    rcases keyIs_shape hu with ⟨i, t, rfl, rfl⟩ | ⟨x, t, rfl, rfl⟩
    · rcases keyIs_shape hv with ⟨j, u, rfl, rfl⟩ | ⟨y, u, rfl, rfl⟩
      · rw [key_ll] at h; exact wpAny_eqBool_int h
      · rw [key_lr] at h; exact SeqAt.EqAt.int_str i t y u _ _ _ _ h
    · rcases keyIs_shape hv with ⟨j, u, rfl, rfl⟩ | ⟨y, u, rfl, rfl⟩
      · rw [key_rl] at h; exact SeqAt.EqAt.str_int x t j u _ _ _ _ h
      · rw [key_rr] at h; exact wpAny_eqBool_str h
  «strs» := fun k x t v h => by
    rcases keyIs_shape h with ⟨i, u, rfl, e⟩ | ⟨y, u, rfl, e⟩
    · exact nomatch e
    · injection e with e1 _
      subst e1
      cases v <;> rfl

end L2

namespace L2
open PySem PySem.Spec PyProof.Rows

inductive V where
  | non | bl (b : Bool) | int (i : Int) | str (x : Str) | byt (b : Array UInt8) | flt (b : UInt64) | ref (a : Addr) | ty (n : String)
  deriving DecidableEq

def RelV : V → Value → Prop
  | .non, u => u = Value.none
  | .bl b, u => u = Value.bool b
  | .int i, u => ∃ t, u = Value.int i t
  | .str x, u => ∃ t, u = Value.str x t
  | .byt b, u => ∃ t, u = Value.bytes b t
  | .flt b, u => ∃ t, u = Value.float b t
  | .ref a, u => u = Value.ref a
  | .ty n, u => u = Value.type n

abbrev Vals : List V → List Value → Prop := Paired RelV
theorem Vals.length {xs : List V} {us : List Value} (r : Vals xs us) : xs.length = us.length := Paired.length r
theorem Vals.get : ∀ {xs : List V} {us : List Value} {i : Nat} {x : V}, Vals xs us → xs[i]? = some x → ∃ u, us[i]? = some u ∧ RelV x u
  | _, _, _, _, .nil, e => by simp at e
  | _, _, 0, _, .cons r _, e => by simp at e; subst e; exact ⟨_, rfl, r⟩
  | _, _, i + 1, x, .cons _ t, e => by
    obtain ⟨u, h1, h2⟩ := Vals.get (i := i) (x := x) t (by simpa using e)
    exact ⟨u, by simpa using h1, h2⟩
theorem Vals.append : ∀ {xs ys : List V} {us ws : List Value}, Vals xs us → Vals ys ws → Vals (xs ++ ys) (us ++ ws)
  | _, _, _, _, .nil, s => s
  | _, _, _, _, .cons r t, s => .cons r (Vals.append t s)
theorem Vals.take : ∀ {xs : List V} {us : List Value} (n : Nat), Vals xs us → Vals (xs.take n) (us.take n)
  | _, _, 0, _ => .nil
  | _, _, _ + 1, .nil => .nil
  | _, _, n + 1, .cons r t => .cons r (Vals.take n t)
theorem Vals.drop : ∀ {xs : List V} {us : List Value} (n : Nat), Vals xs us → Vals (xs.drop n) (us.drop n)
  | _, _, 0, r => r
  | _, _, _ + 1, .nil => .nil
  | _, _, n + 1, .cons _ t => Vals.drop n t
def RelO : Option V → Option Value → Prop
  | some v, some u => RelV v u
  | none, none => True
  | _, _ => False
def KV {κ : Type} : List (κ × V) → List (κ × Value) → Prop := Paired fun (p : κ × V) (q : κ × Value) => p.1 = q.1 ∧ RelV p.2 q.2

def kV : Key → V
  | .inl i => .int i
  | .inr x => .str x

inductive HO where
  /-- a list -/
  | lst (xs : List V)
  /-- a tuple (never changes) -/
  | tup (xs : List V)
  /-- a dict whose keys are ints and texts; one whose keys are tuples of ints and texts (the empty one is both) -/
  | dK (kvs : List (Key × V)) | dT (kvs : List (List Key × V))
  /-- a set of ints: its members, its size -/
  | set (S : Int → Bool) (n : Nat)
  /-- an instance of the class at C, its dict at dx, its attributes -/
  | ins (C dx : Addr) (fs : List (Str × V))
  /-- the dict of the instance at x -/
  | own (x : Addr)
  /-- the dict of an exception -/
  | xd (fs : List (Str × V))
  /-- a bound method, f of x -/
  | met (f x : Addr)
  /-- a range object lo, lo + 1, .. below hi -/
  | rng (lo hi : Int)
  /-- a thing that is known to the object (the script; a dict while a loop walks it): read, never written while it is so -/
  | frz (o : Obj) (u : HO)
  /-- a code object's table -/
  | tbl (ps : Array Value)
  /-- any other thing, by what is true of its one object (a def of one's own: SetO a S n := HO.ext fun h => ..) -/
  | ext (φ : Heap → Prop)

abbrev Hp := Addr → Option HO
def upd (H : Hp) (a : Addr) (o : HO) : Hp := fun b => if b = a then some o else H b
theorem upd_same {H : Hp} {a : Addr} {o : HO} : upd H a o a = some o := by unfold upd; rw [if_pos rfl]
theorem upd_ne {H : Hp} {a b : Addr} {o : HO} (h : b ≠ a) : upd H a o b = H b := by unfold upd; rw [if_neg h]
theorem ne_of {H : Hp} {a b : Addr} {o u : HO} (h : H a = some o) (h' : H b = some u) (d : o ≠ u) : a ≠ b := by
  intro e; subst e; rw [h] at h'; exact d (Option.some.inj h')
theorem ne_of_none {H : Hp} {a b : Addr} {o : HO} (h : H a = some o) (h' : H b = none) : a ≠ b := by
  intro e; subst e; rw [h] at h'; cases h'

section
variable (P : Program) (w : World)
def ObjOk (H : Hp) (h : Heap) (a : Addr) : HO → Prop
  | .lst xs => xs.length ≤ sizeLine ∧ ∃ (its : List Value) (n : Nat), Vals xs its ∧ h.get? a = some { cls := .type "list", data := .seq its.toArray n }
  | .tup xs => xs.length ≤ sizeLine ∧ ∃ its : List Value, Vals xs its ∧ IsTup h a its.toArray
  | .dK kvs => kvs.length ≤ sizeLine ∧ (a == sysModules) = false ∧ ∃ vs, KV kvs vs ∧ h.DictOf (mixKind P w) a vs
  | .dT kvs => kvs.length ≤ sizeLine ∧ (a == sysModules) = false ∧ ∃ xs : List (List Key × Addr × Value),
      Paired (fun (p : List Key × V) (q : List Key × Addr × Value) => p.1 = q.1 ∧ H q.2.1 = some (.tup (p.1.map kV)) ∧ RelV p.2 q.2.2) kvs xs ∧
      ∃ o es ep, h.get? a = some o ∧ o.ExactDict ∧ o.data = .dict es ep ∧ es.toList = xs.map (entryOfKey (tupleKind (mixKind P w))) ∧ (xs.map (·.1)).Nodup
  | .set S n => h.SetOf (intKind P w) a S n
  | .ins C dx fs => H dx = some (.own a) ∧ fs.length ≤ 1000 ∧ dx ≠ a ∧ h.get? a = some (PySem.W.instObj C dx) ∧
      ∃ mA, h.Ns1 dx mA ∧ (∀ f, RelO (fs.lookup f) (mA f)) ∧ PySem.Within mA (fs.map (·.1))
  | .own _ => ∃ o, h.get? a = some o
  | .xd fs => ∃ mA, h.Ns1 a mA ∧ ∀ f, RelO (fs.lookup f) (mA f)
  | .rng lo hi => ∃ t u v, h.get? a = some { cls := .type "range", data := .fields #[.int lo t, .int hi u, .int 1 v] }
  | .frz o u => h.get? a = some o ∧ ObjOk H h a u
  | .tbl ps => h.get? a = some { cls := .none, data := .fields ps }
  | .met f x => h.get? a = some (PySem.W.methodObj (.ref f) (.ref x))
  | .ext φ => φ h ∧ (∃ o, h.get? a = some o) ∧ ∀ h1 h2 : Heap, φ h1 → (∀ o, h1.get? a = some o → h2.get? a = some o) → φ h2
def HOk (H : Hp) (h : Heap) : Prop := ∀ a o, H a = some o → ObjOk P w H h a o
end

section
variable {P : Program} {w : World} {H H' : Hp} {h h' : Heap} {a : Addr} {o : HO}
theorem ObjOk.lt (x : ObjOk P w H h a o) : a < h.objs.size := by
  cases o with
  | lst xs => obtain ⟨_, _, _, _, e⟩ := x; exact Heap.lt_size e
  | tup xs => obtain ⟨_, _, _, p⟩ := x; exact p.lt
  | dK kvs => obtain ⟨_, _, _, _, o, _, _, e, _⟩ := x; exact Heap.lt_size e
  | dT kvs => obtain ⟨_, _, _, _, o, _, _, e, _⟩ := x; exact Heap.lt_size e
  | set S n => obtain ⟨o, _, _, _, e, _⟩ := x; exact Heap.lt_size e
  | ins C dx fs => obtain ⟨_, _, _, e, _⟩ := x; exact Heap.lt_size e
  | own y => obtain ⟨_, e⟩ := x; exact Heap.lt_size e
  | xd fs => obtain ⟨_, ⟨_, _, _, e, _⟩, _⟩ := x; exact Heap.lt_size e
  | rng lo hi => obtain ⟨_, _, _, e⟩ := x; exact Heap.lt_size e
  | frz ob u => obtain ⟨e, _⟩ := x; exact Heap.lt_size e
  | tbl ps => exact Heap.lt_size (show h.get? a = some _ from x)
  | met f y => exact Heap.lt_size (show h.get? a = some _ from x)
  | ext φ => obtain ⟨_, ⟨_, e⟩, _⟩ := x; exact Heap.lt_size e
theorem Paired.mapP {α β : Type} {F G : α → β → Prop} : ∀ {l₁ : List α} {l₂ : List β}, Paired F l₁ l₂ → (∀ a b, F a b → G a b) → Paired G l₁ l₂
  | _, _, .nil, _ => .nil
  | _, _, .cons r t, f => .cons (f _ _ r) (Paired.mapP t f)
theorem ObjOk.stay (x : ObjOk P w H h a o) (k : ∀ b u, (b = a ∨ H b = some (.own a)) → h.get? b = some u → h'.get? b = some u)
    (ho : ∀ b, H b = some (.own a) → H' b = some (.own a)) (ht : ∀ b xs, H b = some (.tup xs) → H' b = some (.tup xs)) : ObjOk P w H' h' a o := by
  induction o with
  | lst xs => obtain ⟨z, its, n, r, e⟩ := x; exact ⟨z, its, n, r, k _ _ (.inl rfl) e⟩
  | tup xs => obtain ⟨z, its, r, ob, e, c⟩ := x; exact ⟨z, its, r, ob, k _ _ (.inl rfl) e, c⟩
  | dK kvs => obtain ⟨z, y, vs, r, ob, es, ep, e, c⟩ := x; exact ⟨z, y, vs, r, ob, es, ep, k _ _ (.inl rfl) e, c⟩
  | dT kvs =>
    obtain ⟨z, y, xs, r, ob, es, ep, e, c⟩ := x
    exact ⟨z, y, xs, Paired.mapP r fun p q z => ⟨z.1, ht _ _ z.2.1, z.2.2⟩, ob, es, ep, k _ _ (.inl rfl) e, c⟩
  | set S n => obtain ⟨ob, es, ep, t, e, c⟩ := x; exact ⟨ob, es, ep, t, k _ _ (.inl rfl) e, c⟩
  | ins C dx fs =>
    obtain ⟨d, z, ne, e, mA, ⟨od, es, ep, e2, c⟩, r⟩ := x
    exact ⟨ho _ d, z, ne, k _ _ (.inl rfl) e, mA, ⟨od, es, ep, k _ _ (.inr d) e2, c⟩, r⟩
  | own y => obtain ⟨ob, e⟩ := x; exact ⟨ob, k _ _ (.inl rfl) e⟩
  | xd fs => obtain ⟨mA, ⟨od, es, ep, e, c⟩, r⟩ := x; exact ⟨mA, ⟨od, es, ep, k _ _ (.inl rfl) e, c⟩, r⟩
  | rng lo hi => obtain ⟨t, u, v, e⟩ := x; exact ⟨t, u, v, k _ _ (.inl rfl) e⟩
  | frz ob u ih => obtain ⟨e, q⟩ := x; exact ⟨k _ _ (.inl rfl) e, ih q⟩
  | tbl ps =>
    have e : h.get? a = some { cls := .none, data := .fields ps } := x
    show h'.get? a = some { cls := .none, data := .fields ps }
    exact k a _ (.inl rfl) e
  | met f y =>
    have e : h.get? a = some (PySem.W.methodObj (.ref f) (.ref y)) := x
    show h'.get? a = some (PySem.W.methodObj (.ref f) (.ref y))
    exact k a _ (.inl rfl) e
  | ext φ => obtain ⟨p, ⟨o, e⟩, st⟩ := x; exact ⟨st _ _ p fun o q => k _ _ (.inl rfl) q, ⟨o, k _ _ (.inl rfl) e⟩, st⟩
theorem HOk.lt (x : HOk P w H h) (e : H a = some o) : a < h.objs.size := (x a o e).lt
theorem HOk.fresh (x : HOk P w H h) (e : h.objs.size ≤ a) : H a = none := by
  cases q : H a with
  | none => rfl
  | some u => exact absurd (Nat.lt_of_lt_of_le (x.lt q) e) (Nat.lt_irrefl _)
theorem HOk.kept (x : HOk P w H h) (k : ∀ b u, h.get? b = some u → h'.get? b = some u) : HOk P w H h' := fun a o e =>
  (x a o e).stay (fun b u _ q => k b u q) (fun _ q => q) fun _ _ q => q
theorem HOk.laid (x : HOk P w H h) (k : ∀ b u, h.get? b = some u → h'.get? b = some u) (hp : h.objs.size ≤ a) (new : ObjOk P w (upd H a o) h' a o) : HOk P w (upd H a o) h' := fun b u e => by
  have hn := x.fresh hp
  by_cases hb : b = a
  · subst hb; rw [upd_same] at e; cases e; exact new
  · rw [upd_ne hb] at e
    exact (x b u e).stay (fun c v _ q => k c v q) (fun c q => by rw [upd_ne (ne_of_none q hn)]; exact q) fun c xs q => by rw [upd_ne (ne_of_none q hn)]; exact q
end

def Rd (H : Hp) (a : Addr) (u : HO) : Prop := H a = some u ∨ ∃ o, H a = some (.frz o u)
theorem Rd.ok {P : Program} {w : World} {H : Hp} {h : Heap} {a : Addr} {u : HO} (r : Rd H a u) (x : HOk P w H h) : ObjOk P w H h a u := by
  rcases r with r | ⟨o, r⟩
  · exact x a u r
  · obtain ⟨_, q⟩ := x a _ r
    exact q
def Mut : Option HO → Prop
  | some (.lst _) => True
  | some (.dK _) => True
  | some (.dT _) => True
  | some (.set _ _) => True
  | some (.ins _ _ _) => True
  | some (.ext _) => True
  | _ => False
section
variable {P : Program} {w : World} {H : Hp} {h h' : Heap} {x e : Addr} {o' : HO}
theorem HOk.write (ok : HOk P w H h) (mu : Mut (H x)) (he : e = x ∨ H e = some (.own x)) (k : ∀ b u, b ≠ e → h.get? b = some u → h'.get? b = some u) (heo : ∃ u, h'.get? e = some u)
    (new : ObjOk P w (upd H x o') h' x o') : HOk P w (upd H x o') h' := fun b u q => by
  have nown : ∀ c y, H c = some (.own y) → c ≠ x := fun c y r z => by subst z; rw [r] at mu; exact mu
  have ntup : ∀ c xs, H c = some (.tup xs) → c ≠ x := fun c xs r z => by subst z; rw [r] at mu; exact mu
  by_cases hb : b = x
  · subst hb; rw [upd_same] at q; cases q; exact new
  · rw [upd_ne hb] at q
    by_cases hbe : b = e
    · have q' : H b = some (.own x) := by
        rcases he with z | z
        · exact absurd (hbe.trans z) hb
        · rw [hbe]; exact z
      rw [q] at q'; cases q'
      obtain ⟨v, hv⟩ := heo
      exact ⟨v, by rw [hbe]; exact hv⟩
    · refine (ok b u q).stay (fun c v hc r => k c v ?_ r) (fun c r => by rw [upd_ne (nown c b r)]; exact r) fun c xs r => by rw [upd_ne (ntup c xs r)]; exact r
      rcases hc with rfl | hc
      · exact hbe
      · rintro rfl
        rcases he with z | z
        · exact nown c b hc z
        · rw [hc] at z; cases z; exact hb rfl
end

structure Un (fs ex : List Addr) (H H' : Hp) (h h' : Heap) : Prop where
  keep : ∀ b o, h.get? b = some o → H b = none → b ∉ fs → b ∉ ex → h'.get? b = some o
  slot : ∀ b o, h.get? b = some o → H b = none → b ∈ fs → b ∉ ex → ∃ sl, h'.get? b = some { o with slots := sl }
  free : ∀ b o, h.get? b = some o → H b = none → b ∉ ex → H' b = none
  there : ∀ b o, h.get? b = some o → b ∉ ex → ∃ o', h'.get? b = some o'
  tups : ∀ b xs, H b = some (.tup xs) → H' b = some (.tup xs)
  frzs : ∀ b o u, H b = some (.frz o u) → H' b = some (.frz o u)
  tbls : ∀ b ps, H b = some (.tbl ps) → ∃ more, H' b = some (.tbl (ps ++ more))
section
variable {fs fs' ex ex' : List Addr} {H H1 H2 : Hp} {h h1 h2 h' : Heap} {a x e : Addr} {o : HO}
theorem Un.any (u : Un fs ex H H1 h h1) {b : Addr} {ob : Obj} (q : h.get? b = some ob) (n : H b = none) (hx : b ∉ ex) : ∃ sl, h1.get? b = some { ob with slots := sl } := by
  by_cases hb : b ∈ fs
  · exact u.slot b ob q n hb hx
  · exact ⟨ob.slots, u.keep b ob q n hb hx⟩
theorem Un.kept (k : ∀ b u, h.get? b = some u → h'.get? b = some u) : Un fs ex H H h h' :=
  ⟨fun b ob q _ _ _ => k b ob q, fun b ob q _ _ _ => ⟨ob.slots, k b ob q⟩, fun _ _ _ n _ => n, fun b ob q _ => ⟨ob, k b ob q⟩, fun _ _ q => q, fun _ _ _ q => q, fun _ ps q => ⟨#[], by rw [q]; simp⟩⟩
theorem Un.refl : Un fs ex H H h h := Un.kept fun _ _ q => q
theorem Un.laid (k : ∀ b u, h.get? b = some u → h'.get? b = some u) (hp : h.objs.size ≤ a) (hn : H a = none) : Un fs ex H (upd H a o) h h' where
  keep := fun b u q _ _ _ => k b u q
  slot := fun b u q _ _ _ => ⟨u.slots, k b u q⟩
  free := fun b u q n _ => by rw [upd_ne (Nat.ne_of_lt (Nat.lt_of_lt_of_le (Heap.lt_size q) hp))]; exact n
  there := fun b u q _ => ⟨u, k b u q⟩
  tups := fun b xs q => by rw [upd_ne (ne_of_none q hn)]; exact q
  frzs := fun b u xs q => by rw [upd_ne (ne_of_none q hn)]; exact q
  tbls := fun b ps q => ⟨#[], by rw [upd_ne (ne_of_none q hn), q]; simp⟩
theorem Un.write (mu : Mut (H x)) (he : e = x ∨ H e = some (.own x)) (k : ∀ b u, b ≠ e → h.get? b = some u → h'.get? b = some u) (heo : ∃ u, h'.get? e = some u) : Un fs ex H (upd H x o) h h' := by
  have hx : ∀ b, H b = none → b ≠ x := fun b n z => by subst z; rw [n] at mu; exact mu
  have hb : ∀ b, H b = none → b ≠ e := fun b n z => by
    subst z
    rcases he with r | r
    · exact hx b n r
    · rw [n] at r; cases r
  have hm : ∀ b u, H b = some u → ¬ Mut (some u) → b ≠ x := fun b u q nm z => by subst z; rw [q] at mu; exact nm mu
  refine ⟨fun b u q n _ _ => k b u (hb b n) q, fun b u q n _ _ => ⟨u.slots, k b u (hb b n) q⟩, fun b u q n _ => by rw [upd_ne (hx b n)]; exact n, fun b u q _ => ?_,
    fun b xs q => by rw [upd_ne (hm b _ q fun z => z)]; exact q, fun b u xs q => by rw [upd_ne (hm b _ q fun z => z)]; exact q, fun b ps q => ⟨#[], by rw [upd_ne (hm b _ q fun z => z), q]; simp⟩⟩
  by_cases hbe : b = e
  · subst hbe; exact heo
  · exact ⟨u, k b u hbe q⟩
end

def trk (h : Heap) (H : Hp) : List Addr := (List.range h.objs.size).filter fun a => (H a).isSome
def hidT (h : Heap) (H : Hp) : Heap := PySem.W.hideAll h (trk h H)
theorem hidT_size (h : Heap) (H : Hp) : (hidT h H).objs.size = h.objs.size := PySem.W.hideAll_size _ _
theorem hidT_get {h : Heap} {H : Hp} {b : Addr} {o : Obj} (e : h.get? b = some o) (n : H b = none) : (hidT h H).get? b = some o :=
  PySem.W.hideAll_get _ e fun hm => by
    have q : (H b).isSome = true := (List.mem_filter.mp hm).2
    rw [n] at q; simp at q
theorem of_hidT {h : Heap} {H : Hp} {b : Addr} {o : Obj} (e : (hidT h H).get? b = some o) : h.get? b = some o ∧ H b = none := by
  have e' : h.get? b = some o := PySem.W.of_hideAll (trk h H) e
  refine ⟨e', ?_⟩
  cases q : H b with
  | none => rfl
  | some x =>
    have hm : b ∈ trk h H := List.mem_filter.mpr ⟨List.mem_range.mpr (Heap.lt_size e'), by simp [q]⟩
    have z : (hidT h H).get? b = none := PySem.W.hideAll_none (trk h H) hm
    rw [z] at e; cases e

def allNews (g h : Heap) (L : Addr) : List (Addr × Obj) := (List.range h.objs.size).filterMap fun a => if a = L ∨ (g.get? a).isSome = true then none else (h.get? a).map fun o => (a, o)
def rest (g h : Heap) (L d : Addr) : List (Addr × Obj) := (allNews g h L).filter fun p => decide (p.1 ≠ d)
end L2

namespace L2
open PySem PySem.Spec PyProof.Rows

structure Mod (K : PySem.W.Frag) (mg : Str → Option Value) (base : Heap) : Prop where
  kin : K.In base
  glob : base.Ns mainGlobals mg
  blt : ∃ mb, base.Ns builtinsNs mb ∧ ∀ x : Str, x ≠ "__name__" → mb x = bootBuiltins x
  nolimit : base.NoLimit

structure Cx where
  prog : Program
  w : World
  K : PySem.W.Frag
  mg : Str → Option Value
  base : Heap
  A : Around
  N : List Str
  s₀ : Shared
  H₀ : Hp
  env : Env
  outer : List Env
  stack : List Env
  ex : List Addr
  fn : Str → Bool
  calm : Bool
  pn : List (Addr × Obj)
  xe : Value → Shared → Prop
def frs (l : List Env) : List Addr := l.filterMap (·.frame)
abbrev Cx.fs (X : Cx) : List Addr := frs X.outer

def Vis (sc : Scope) (x : Str) : Prop := sc.names.lookup x = some .local ∨ sc.names.lookup x = some .cell ∨ sc.names.lookup x = some .free
def Loc (sc : Scope) (x : Str) : Prop := sc.names.lookup x = some .local ∨ sc.names.lookup x = some .cell
def Look (env : Env) (h : Heap) (m : Str → Option Value) (x : Str) (u : Value) : Prop :=
  (env.kindOf x = some .local ∧ m x = some u) ∨ ((env.kindOf x = some .cell ∨ env.kindOf x = some .free) ∧ ∃ c, env.cells.lookup x = some c ∧ h.IsCell c (some u))

structure Cx.Ok (X : Cx) : Prop where
  mod : Mod X.K X.mg X.base
  kind : X.env.scope.kind = .function
  glob : X.env.globals = mainGlobals
  blt : X.env.builtins = builtinsNs
  above : X.s₀.heap.objs.size ≤ X.env.locals
  inj : ∀ x y c, X.env.cells.lookup x = some c → X.env.cells.lookup y = some c → x = y
  has : ∀ x, (X.env.kindOf x = some .cell ∨ X.env.kindOf x = some .free) → ∃ c, X.env.cells.lookup x = some c
  cab : ∀ x c, X.fn x = true → X.env.cells.lookup x = some c → X.s₀.heap.objs.size ≤ c
  hd : X.calm = true → X.A.handled = none
  frames : X.A.frames = some X.stack
  stk : X.stack = X.outer ∨ (X.stack = X.env :: X.outer ∧ X.env.frame = some X.env.locals)
  exf : ∀ b ∈ X.ex, b ≠ X.env.locals ∧ ∀ x c, X.env.cells.lookup x = some c → c ≠ b
  bs : ∀ b o, X.base.get? b = some o → X.s₀.heap.get? b = some o ∧ X.H₀ b = none
  bsz : X.base.objs.size ≤ X.s₀.heap.objs.size
  noex : ∀ b o, X.base.get? b = some o → b ∉ X.ex
  exfs : ∀ b ∈ X.ex, b ∉ X.fs
  funs : X.s₀.heap.FunFrames X.base X.outer
  frf : ∀ b ∈ X.fs, X.H₀ b = none

structure Inv (X : Cx) (pins : List (Addr × Obj)) (σ : List (Option V)) (H : Hp) (s : Shared) : Prop where
  ok : X.Ok
  os : s.os = X.s₀.os
  bare : AllBare s.gens
  base : Un X.fs X.ex X.H₀ H X.s₀.heap s.heap
  loc : ∃ m, s.heap.Ns X.env.locals m ∧ ∀ (i : Nat) (x : Str) (v : V), X.N[i]? = some x → σ[i]? = some (some v) → Vis X.env.scope x → ∃ u, RelV v u ∧ Look X.env s.heap m x u
  cell : ∀ x c, X.env.cells.lookup x = some c → ∃ v, s.heap.IsCell c v
  free : H X.env.locals = none
  freeC : ∀ x c, X.env.cells.lookup x = some c → H c = none
  pin : ∀ p ∈ X.pn ++ pins, s.heap.get? p.1 = some p.2 ∧ H p.1 = none ∧ p.1 ≠ X.env.locals ∧ p.1 ∉ X.fs ∧ ∀ v, p.2.data ≠ .cell v
  hok : HOk X.prog X.w H s.heap
  len : σ.length = X.N.length

section
variable {X : Cx} {pins : List (Addr × Obj)} {σ : List (Option V)} {H H' : Hp} {s : Shared} {h' : Heap}

theorem Cx.Ok.nofr (ok : X.Ok) {b : Addr} {o : Obj} (e : X.base.get? b = some o) : b ∉ X.fs := fun hb => by
  have := (ok.funs.mem hb).1
  rw [e] at this; cases this
theorem Inv.bs (I : Inv X pins σ H s) : ∀ b o, X.base.get? b = some o → s.heap.get? b = some o ∧ H b = none := fun b o e =>
  ⟨I.base.keep b o (I.ok.bs b o e).1 (I.ok.bs b o e).2 (I.ok.nofr e) (I.ok.noex b o e), I.base.free b o (I.ok.bs b o e).1 (I.ok.bs b o e).2 (I.ok.noex b o e)⟩
theorem Inv.bk (I : Inv X pins σ H s) : ∀ b o, X.base.get? b = some o → s.heap.get? b = some o := fun b o e => (I.bs b o e).1
theorem Inv.mod (I : Inv X pins σ H s) : Mod X.K X.mg X.base := I.ok.mod
theorem Inv.kIn (I : Inv X pins σ H s) : X.K.In s.heap := I.ok.mod.kin.keeps I.bk
theorem Inv.fr (I : Inv X pins σ H s) : ∃ m, Fr X.base X.env.locals s.heap m :=
  let ⟨m, hn, _⟩ := I.loc
  ⟨m, hn, I.bk, Nat.le_trans I.ok.bsz I.ok.above⟩
theorem Inv.lt (I : Inv X pins σ H s) : X.env.locals < s.heap.objs.size := let ⟨_, hn, _⟩ := I.loc; hn.lt
theorem Inv.sz (I : Inv X pins σ H s) : X.s₀.heap.objs.size ≤ s.heap.objs.size := Nat.le_trans I.ok.above (Nat.le_of_lt I.lt)
theorem Inv.nofs (I : Inv X pins σ H s) {a : Addr} (h : s.heap.objs.size ≤ a) : a ∉ X.fs := fun hb => by
  obtain ⟨_, o, ho, _⟩ := I.ok.funs.mem hb
  exact absurd (Nat.lt_of_lt_of_le (Heap.lt_size ho) (Nat.le_trans I.sz h)) (Nat.lt_irrefl _)
theorem Inv.cne (I : Inv X pins σ H s) : ∀ x c, X.env.cells.lookup x = some c → c ≠ X.env.locals := fun x c e z => by
  obtain ⟨v, o, ho, hd⟩ := I.cell x c e
  obtain ⟨m, ⟨o', es, ep, ho', hd', _⟩, _⟩ := I.loc
  rw [z, ho'] at ho; cases ho; rw [hd'] at hd; cases hd
theorem Inv.funs (I : Inv X pins σ H s) : s.heap.FunFrames X.base X.outer := by
  have all : ∀ (l : List Env), (∀ b ∈ frs l, b ∈ X.fs) → X.s₀.heap.FunFrames X.base l → s.heap.FunFrames X.base l := by
    intro l
    induction l with
    | nil => intro _ _; trivial
    | cons env r ih =>
      intro hs hl
      obtain ⟨hk, ⟨L, o, hf, hn, ho, hd⟩, hr⟩ := hl
      have hL : L ∈ X.fs := hs L (by unfold frs; rw [List.filterMap_cons, hf]; exact List.mem_cons_self)
      obtain ⟨sl, e⟩ := I.base.slot L o ho (I.ok.frf L hL) hL fun z => I.ok.exfs L z hL
      exact ⟨hk, ⟨L, _, hf, hn, e, hd⟩, ih (fun b hb => hs b (by unfold frs; rw [List.filterMap_cons, hf]; exact List.mem_cons_of_mem _ hb)) hr⟩
  exact all X.outer (fun _ hb => hb) I.ok.funs

theorem Inv.stack (I : Inv X pins σ H s) : s.heap.FunFrames X.base X.stack := by
  rcases I.ok.stk with e | ⟨e, hf⟩
  · rw [e]; exact I.funs
  · rw [e]
    obtain ⟨m, hn, _⟩ := I.loc
    refine .cons (by rw [I.ok.kind]; decide) hf hn ?_ I.funs
    exact Heap.get?_none_of_le (Nat.le_trans I.ok.bsz I.ok.above)
theorem Inv.stkSub (I : Inv X pins σ H s) : ∀ b ∈ frs X.stack, b ∈ X.env.locals :: X.fs := fun b hb => by
  rcases I.ok.stk with e | ⟨e, hf⟩
  · rw [e] at hb; exact List.mem_cons_of_mem _ hb
  · rw [e] at hb
    unfold frs at hb
    rw [List.filterMap_cons, hf] at hb
    exact hb
theorem Inv.stkFree (I : Inv X pins σ H s) : ∀ b ∈ frs X.stack, H b = none := fun b hb => by
  rcases List.mem_cons.mp (I.stkSub b hb) with e | hb
  · rw [e]; exact I.free
  · obtain ⟨_, o, ho, _⟩ := I.ok.funs.mem hb
    exact I.base.free b o ho (I.ok.frf b hb) fun z => I.ok.exfs b z hb

theorem Inv.step {g' : Array GenState} {t' : Nat} {d' : Drawn} {ch : List Addr} (I : Inv X pins σ H s)
    (hch : ∀ b ∈ ch, (b ∈ X.ex ∨ X.s₀.heap.objs.size ≤ b) ∧ b ≠ X.env.locals ∧ (∀ x c, X.env.cells.lookup x = some c → c ≠ b) ∧ ∀ p ∈ X.pn ++ pins, p.1 ≠ b)
    (keep : ∀ b o, b ≠ X.env.locals → b ∉ X.fs → b ∉ ch → s.heap.get? b = some o → H b = none → h'.get? b = some o)
    (slot : ∀ b o, b ≠ X.env.locals → b ∈ X.fs → b ∉ ch → s.heap.get? b = some o → H b = none → ∃ sl, h'.get? b = some { o with slots := sl }) (free : ∀ b o, b ∉ ch → s.heap.get? b = some o → H b = none → H' b = none)
    (there : ∀ b o, b ∉ ch → s.heap.get? b = some o → ∃ o', h'.get? b = some o')
    (tups : ∀ b xs, H b = some (.tup xs) → H' b = some (.tup xs)) (frzs : ∀ b o u, H b = some (.frz o u) → H' b = some (.frz o u)) (tbls : ∀ b ps, H b = some (.tbl ps) → ∃ more, H' b = some (.tbl (ps ++ more)))
    (ns : ∀ m, s.heap.Ns X.env.locals m → h'.Ns X.env.locals m) (hok : HOk X.prog X.w H' h') (hg : AllBare g') :
    Inv X pins σ H' { s with heap := h', gens := g', drawn := d', toks := t' } := by
  have neL : ∀ b o, X.s₀.heap.get? b = some o → b ≠ X.env.locals := fun b o e => Nat.ne_of_lt (Nat.lt_of_lt_of_le (Heap.lt_size e) I.ok.above)
  have neC : ∀ b o, X.s₀.heap.get? b = some o → b ∉ X.ex → b ∉ ch := fun b o e hx hb => by
    rcases (hch b hb).1 with z | z
    · exact hx z
    · exact absurd (Nat.lt_of_lt_of_le (Heap.lt_size e) z) (Nat.lt_irrefl _)
  have cellK : ∀ x c, X.env.cells.lookup x = some c → ∀ v, s.heap.IsCell c v → h'.IsCell c v := fun x c e v ⟨o, ho, hd⟩ => by
    have nch : c ∉ ch := fun z => (hch c z).2.2.1 x c e rfl
    by_cases hc : c ∈ X.fs
    · obtain ⟨sl, q⟩ := slot c o (I.cne x c e) hc nch ho (I.freeC x c e)
      exact ⟨_, q, hd⟩
    · exact ⟨o, keep c o (I.cne x c e) hc nch ho (I.freeC x c e), hd⟩
  refine ⟨I.ok, I.os, hg, ⟨fun b o e n hb hx => ?_, fun b o e n hb hx => ?_, fun b o e n hx => ?_, fun b o e hx => ?_, fun b xs e => tups b xs (I.base.tups b xs e), fun b o xs e => frzs b o xs (I.base.frzs b o xs e), fun b ps e => ?_⟩, ?_, fun x c e => ?_, ?_, fun x c e => ?_, fun p hp => ?_, hok, I.len⟩
  · exact keep b o (neL b o e) hb (neC b o e hx) (I.base.keep b o e n hb hx) (I.base.free b o e n hx)
  · obtain ⟨sl, e1⟩ := I.base.slot b o e n hb hx
    obtain ⟨sl', e2⟩ := slot b _ (neL b o e) hb (neC b o e hx) e1 (I.base.free b o e n hx)
    exact ⟨sl', e2⟩
  · obtain ⟨o', e1⟩ := I.base.there b o e hx
    exact free b o' (neC b o e hx) e1 (I.base.free b o e n hx)
  · obtain ⟨o', e1⟩ := I.base.there b o e hx
    exact there b o' (neC b o e hx) e1
  · obtain ⟨m1, e1⟩ := I.base.tbls b ps e
    obtain ⟨m2, e2⟩ := tbls b _ e1
    exact ⟨m1 ++ m2, by rw [e2, Array.append_assoc]⟩
  · obtain ⟨m, hn, hl⟩ := I.loc
    refine ⟨m, ns m hn, fun i x v e1 e2 e3 => ?_⟩
    obtain ⟨u, r, l⟩ := hl i x v e1 e2 e3
    refine ⟨u, r, ?_⟩
    rcases l with l | ⟨k, c, e, z⟩
    · exact .inl l
    · exact .inr ⟨k, c, e, cellK x c e _ z⟩
  · obtain ⟨v, z⟩ := I.cell x c e
    exact ⟨v, cellK x c e v z⟩
  · obtain ⟨m, ⟨o, _, _, ho, _⟩, _⟩ := I.loc
    exact free _ o (fun z => (hch _ z).2.1 rfl) ho I.free
  · obtain ⟨v, o, ho, hd⟩ := I.cell x c e
    exact free c o (fun z => (hch c z).2.2.1 x c e rfl) ho (I.freeC x c e)
  · obtain ⟨e, n, ne, nf, d⟩ := I.pin p hp
    have nch : p.1 ∉ ch := fun z => (hch p.1 z).2.2.2 p hp rfl
    exact ⟨keep p.1 p.2 ne nf nch e n, free p.1 p.2 nch e n, ne, nf, d⟩
theorem Inv.un {t' : Nat} (I : Inv X pins σ H s) (u : Un X.fs [] H H' s.heap h') (hok : HOk X.prog X.w H' h') : Inv X pins σ H' { s with heap := h', toks := t' } := by
  obtain ⟨m, ⟨o, es, ep, ho, r⟩, _⟩ := id I.loc
  obtain ⟨sl, hL⟩ := u.any ho I.free (by simp)
  exact I.step (g' := s.gens) (d' := s.drawn) (ch := []) (fun _ z => nomatch z) (fun b o _ hb _ e n => u.keep b o e n hb (by simp)) (fun b o _ hb _ e n => u.slot b o e n hb (by simp)) (fun b o _ e n => u.free b o e n (by simp)) (fun b o _ e => u.there b o e (by simp)) u.tups u.frzs u.tbls (fun m' hm => by
    obtain ⟨o', es', ep', ho', r'⟩ := hm
    rw [ho] at ho'; cases ho'
    exact ⟨_, es', ep', hL, r'⟩) hok I.bare
theorem Inv.call {g' : Array GenState} {t' : Nat} {d' : Drawn} {ch : List Addr} (I : Inv X pins σ H s) (u : Un (frs X.stack) ch H H' s.heap h') (hok : HOk X.prog X.w H' h') (hg : AllBare g')
    (hch : ∀ b ∈ ch, (b ∈ X.ex ∨ X.s₀.heap.objs.size ≤ b) ∧ b ≠ X.env.locals ∧ (∀ x c, X.env.cells.lookup x = some c → c ≠ b) ∧ ∀ p ∈ X.pn ++ pins, p.1 ≠ b) :
    Inv X pins σ H' { s with heap := h', gens := g', drawn := d', toks := t' } := by
  obtain ⟨m, ⟨o, es, ep, ho, r⟩, _⟩ := id I.loc
  obtain ⟨sl, hL⟩ := u.any ho I.free fun z => (hch _ z).2.1 rfl
  exact I.step (ch := ch) hch (fun b o hL hb hc e n => u.keep b o e n (fun z => (List.mem_cons.mp (I.stkSub b z)).elim hL hb) hc) (fun b o _ _ hc e n => u.any e n hc) (fun b o hc e n => u.free b o e n hc) (fun b o hc e => u.there b o e hc) u.tups u.frzs u.tbls (fun m' hm => by
    obtain ⟨o', es', ep', ho', r'⟩ := hm
    rw [ho] at ho'; cases ho'
    exact ⟨_, es', ep', hL, r'⟩) hok hg
theorem Inv.turned {t' : Nat} {it : Addr} (I : Inv X pins σ H s) (k : ∀ b o, b ≠ it → s.heap.get? b = some o → h'.get? b = some o) (hn : H it = none) (hL : it ≠ X.env.locals)
    (h1 : it ∈ X.ex ∨ X.s₀.heap.objs.size ≤ it) (h2 : ∀ x c, X.env.cells.lookup x = some c → c ≠ it) (h3 : ∀ p ∈ X.pn ++ pins, p.1 ≠ it) : Inv X pins σ H { s with heap := h', toks := t' } := by
  have nit : ∀ b u, H b = some u → b ≠ it := fun b u e z => by rw [z, hn] at e; cases e
  refine I.step (g' := s.gens) (d' := s.drawn) (ch := [it]) (fun b hb => ?_) (fun b o _ _ hc e _ => k b o (fun z => hc (by simp [z])) e) (fun b o _ _ hc e _ => ⟨o.slots, k b o (fun z => hc (by simp [z])) e⟩) (fun _ _ _ _ n => n)
    (fun b o hc e => ⟨o, k b o (fun z => hc (by simp [z])) e⟩) (fun _ _ e => e) (fun _ _ _ e => e) (fun b ps e => ⟨#[], by rw [e]; simp⟩) (fun m hm => ?_) (fun b u e => ?_) I.bare
  · have e : b = it := by simpa using hb
    subst e
    exact ⟨h1, hL, h2, h3⟩
  · obtain ⟨o, es, ep, ho, r⟩ := hm
    exact ⟨o, es, ep, k _ o (Ne.symm hL) ho, r⟩
  · refine (I.hok b u e).stay (fun c v hc q => k c v ?_ q) (fun _ q => q) fun _ _ q => q
    rcases hc with z | z
    · rw [z]; exact nit b u e
    · exact nit c _ z
theorem Inv.tok (I : Inv X pins σ H s) (t : Nat) : Inv X pins σ H { s with toks := t } := I.un (h' := s.heap) (t' := t) Un.refl I.hok
theorem Inv.kept {t' : Nat} (I : Inv X pins σ H s) (k : ∀ b u, s.heap.get? b = some u → h'.get? b = some u) : Inv X pins σ H { s with heap := h', toks := t' } := I.un (Un.kept k) (I.hok.kept k)
theorem Inv.laid {a : Addr} {o : HO} {t' : Nat} (I : Inv X pins σ H s) (k : ∀ b u, s.heap.get? b = some u → h'.get? b = some u) (hp : s.heap.objs.size ≤ a) (new : ObjOk X.prog X.w (upd H a o) h' a o) :
    Inv X pins σ (upd H a o) { s with heap := h', toks := t' } := I.un (Un.laid k hp (I.hok.fresh hp)) (I.hok.laid k hp new)
theorem Inv.write {x e : Addr} {o : HO} {t' : Nat} (I : Inv X pins σ H s) (mu : Mut (H x)) (he : e = x ∨ H e = some (.own x)) (k : ∀ b u, b ≠ e → s.heap.get? b = some u → h'.get? b = some u) (heo : ∃ u, h'.get? e = some u)
    (new : ObjOk X.prog X.w (upd H x o) h' x o) : Inv X pins σ (upd H x o) { s with heap := h', toks := t' } := I.un (Un.write mu he k heo) (I.hok.write mu he k heo new)
theorem Inv.weak {σ' : List (Option V)} (I : Inv X pins σ H s) (hl : σ'.length = σ.length) (w : ∀ (i : Nat) v, σ'[i]? = some (some v) → σ[i]? = some (some v)) : Inv X pins σ' H s :=
  ⟨I.ok, I.os, I.bare, I.base, let ⟨m, hn, hl'⟩ := I.loc; ⟨m, hn, fun i x v e1 e2 e3 => hl' i x v e1 (w i v e2) e3⟩, I.cell, I.free, I.freeC, I.pin, I.hok, hl.trans I.len⟩
theorem Inv.pins_of {pins' : List (Addr × Obj)} (I : Inv X pins σ H s) (h : ∀ p ∈ pins', s.heap.get? p.1 = some p.2 ∧ H p.1 = none ∧ p.1 ≠ X.env.locals ∧ p.1 ∉ X.fs ∧ ∀ v, p.2.data ≠ .cell v) : Inv X pins' σ H s :=
  ⟨I.ok, I.os, I.bare, I.base, I.loc, I.cell, I.free, I.freeC, fun p hp => (List.mem_append.mp hp).elim (fun z => I.pin p (List.mem_append_left _ z)) (h p), I.hok, I.len⟩

theorem nodup_ix {N : List Str} (hN : N.Nodup) {i j : Nat} {x : Str} (a : N[i]? = some x) (b : N[j]? = some x) : i = j := by
  obtain ⟨h1, e1⟩ := List.getElem?_eq_some_iff.mp a
  obtain ⟨h2, e2⟩ := List.getElem?_eq_some_iff.mp b
  exact (List.getElem_inj hN).mp (e1.trans e2.symm)

theorem store_ok2 {M : Model} {A : Around} {E : Value → Shared → Prop} {i : Nat} {x : Str} {v : V} {u : Value} {Q : Unit → Shared → Prop} (I : Inv X pins σ H s) (hN : X.N.Nodup) (hi : X.N[i]? = some x) (hx : Loc X.env.scope x) (r : RelV v u)
    (h : ∀ s', Inv X pins (σ.set i (some v)) H s' → (∃ a, Heap.SameBut a s.heap s'.heap ∧ (a = X.env.locals ∨ X.env.cells.lookup x = some a)) → Q () s') (hf : X.fn x = true ∨ X.env.scope.names.lookup x = some .local := by first | exact .inl rfl | exact .inr rfl | assumption) : wpAny M A (storeName X.env x u) Q E s := by
  obtain ⟨m, hn, hl⟩ := id I.loc
  have hcls : (X.env.scope.kind == .class || (X.env.scope.kind == .module && X.env.locals != X.env.globals)) = false := by rw [I.ok.kind]; rfl
  have hiσ : i < σ.length := by rw [I.len]; exact (List.getElem?_eq_some_iff.mp hi).1
  have cne := I.cne
  have tracked : ∀ {a : Addr} {h' : Heap}, (∃ o, s.heap.get? a = some o ∧ H a = none) → Heap.SameBut a s.heap h' → HOk X.prog X.w H h' := fun {a h'} ha hs b ob e => by
    obtain ⟨_, _, hfree⟩ := ha
    refine (I.hok b ob e).stay (fun c w' hc q => (hs.2 c ?_).trans q) (fun _ q => q) fun _ _ q => q
    rintro rfl
    rcases hc with rfl | hc
    · rw [hfree] at e; cases e
    · rw [hfree] at hc; cases hc
  rcases hx with hk | hk
  · refine wpAny_storeName_local hk hn (fun h' hn' hs => ?_) hcls
    obtain ⟨oL, _, _, hoL, _⟩ := id hn
    refine h _ ⟨I.ok, I.os, I.bare, ⟨fun b o e n hb hx => ?_, fun b o e n hb hx => ?_, I.base.free, fun b o e hx => ?_, I.base.tups, I.base.frzs, I.base.tbls⟩, ⟨_, hn', fun j y v' e1 e2 e3 => ?_⟩, fun y c e => ?_, I.free, I.freeC, fun p hp => ?_, tracked ⟨oL, hoL, I.free⟩ hs, by simpa using I.len⟩ ⟨_, hs, .inl rfl⟩
    · exact (hs.2 b (Nat.ne_of_lt (Nat.lt_of_lt_of_le (Heap.lt_size e) I.ok.above))).trans (I.base.keep b o e n hb hx)
    · obtain ⟨sl, e1⟩ := I.base.slot b o e n hb hx
      exact ⟨sl, (hs.2 b (Nat.ne_of_lt (Nat.lt_of_lt_of_le (Heap.lt_size e) I.ok.above))).trans e1⟩
    · obtain ⟨o', e1⟩ := I.base.there b o e hx
      exact ⟨o', (hs.2 b (Nat.ne_of_lt (Nat.lt_of_lt_of_le (Heap.lt_size e) I.ok.above))).trans e1⟩
    · by_cases hj : j = i
      · subst hj
        rw [hi] at e1; cases e1
        rw [List.getElem?_set_self hiσ] at e2
        cases e2
        exact ⟨u, r, .inl ⟨hk, by simp⟩⟩
      · rw [List.getElem?_set_ne (Ne.symm hj)] at e2
        obtain ⟨u', r', q⟩ := hl j y v' e1 e2 e3
        refine ⟨u', r', ?_⟩
        rcases q with ⟨k, e⟩ | ⟨k, c, e, z⟩
        · refine .inl ⟨k, ?_⟩
          have : y ≠ x := fun e => hj (nodup_ix hN e1 (e ▸ hi))
          simp [this, e]
        · exact .inr ⟨k, c, e, z.sameBut hs (cne y c e)⟩
    · obtain ⟨w', z⟩ := I.cell y c e
      exact ⟨w', z.sameBut hs (cne y c e)⟩
    · obtain ⟨e, n, ne, nf, d⟩ := I.pin p hp
      exact ⟨(hs.2 p.1 ne).trans e, n, ne, nf, d⟩
  · have hfn : X.fn x = true := by
      rcases hf with z | z
      · exact z
      · rw [z] at hk; cases hk
    obtain ⟨c, hc⟩ := I.ok.has x (.inl hk)
    obtain ⟨w', z⟩ := I.cell x c hc
    refine wpAny_storeName_cell I.ok.kind hk hc z (fun h' hc' hs => ?_)
    obtain ⟨oc, hoc, hocd⟩ := id z
    refine h { s with heap := h' } ⟨I.ok, I.os, I.bare, ⟨fun b o e n hb hx => ?_, fun b o e n hb hx => ?_, I.base.free, fun b o e hx => ?_, I.base.tups, I.base.frzs, I.base.tbls⟩, ⟨m, hn.sameBut hs (Ne.symm (cne x c hc)), fun j y v' e1 e2 e3 => ?_⟩, fun y c' e => ?_, I.free, I.freeC, fun p hp => ?_, tracked ⟨oc, hoc, I.freeC x c hc⟩ hs, by simpa using I.len⟩ ⟨c, hs, .inr hc⟩
    · exact (hs.2 b (Nat.ne_of_lt (Nat.lt_of_lt_of_le (Heap.lt_size e) (I.ok.cab x c hfn hc)))).trans (I.base.keep b o e n hb hx)
    · obtain ⟨sl, e1⟩ := I.base.slot b o e n hb hx
      exact ⟨sl, (hs.2 b (Nat.ne_of_lt (Nat.lt_of_lt_of_le (Heap.lt_size e) (I.ok.cab x c hfn hc)))).trans e1⟩
    · obtain ⟨o', e1⟩ := I.base.there b o e hx
      exact ⟨o', (hs.2 b (Nat.ne_of_lt (Nat.lt_of_lt_of_le (Heap.lt_size e) (I.ok.cab x c hfn hc)))).trans e1⟩
    · by_cases hj : j = i
      · subst hj
        rw [hi] at e1; cases e1
        rw [List.getElem?_set_self hiσ] at e2
        cases e2
        exact ⟨u, r, .inr ⟨.inl hk, c, hc, hc'⟩⟩
      · rw [List.getElem?_set_ne (Ne.symm hj)] at e2
        obtain ⟨u', r', q⟩ := hl j y v' e1 e2 e3
        refine ⟨u', r', ?_⟩
        rcases q with q | ⟨k, c', e, z'⟩
        · exact .inl q
        · refine .inr ⟨k, c', e, z'.sameBut hs ?_⟩
          rintro rfl
          exact hj (nodup_ix hN e1 (I.ok.inj _ _ _ e hc ▸ hi))
    · by_cases hcc : c' = c
      · subst hcc; exact ⟨_, hc'⟩
      · obtain ⟨w2, z2⟩ := I.cell y c' e
        exact ⟨w2, z2.sameBut hs hcc⟩
    · obtain ⟨e, n, ne, nf, d⟩ := I.pin p hp
      refine ⟨(hs.2 p.1 ?_).trans e, n, ne, nf, d⟩
      intro q
      rw [q, hoc] at e
      have q' : oc = p.2 := Option.some.inj e
      exact d w' (by rw [← q']; exact hocd)
theorem store_ok {M : Model} {A : Around} {E : Value → Shared → Prop} {i : Nat} {x : Str} {v : V} {u : Value} {Q : Unit → Shared → Prop} (I : Inv X pins σ H s) (hN : X.N.Nodup) (hi : X.N[i]? = some x) (hx : Loc X.env.scope x) (r : RelV v u)
    (h : ∀ s', Inv X pins (σ.set i (some v)) H s' → Q () s') (hf : X.fn x = true ∨ X.env.scope.names.lookup x = some .local := by first | exact .inl rfl | exact .inr rfl | assumption) : wpAny M A (storeName X.env x u) Q E s :=
  store_ok2 I hN hi hx r (fun s' I' _ => h s' I') hf
theorem Inv.call' {s' : Shared} {ch : List Addr} (I : Inv X pins σ H s) (ho : s'.os = s.os) (u : Un (frs X.stack) ch H H' s.heap s'.heap) (hok : HOk X.prog X.w H' s'.heap) (hg : AllBare s'.gens)
    (hch : ∀ b ∈ ch, (b ∈ X.ex ∨ X.s₀.heap.objs.size ≤ b) ∧ b ≠ X.env.locals ∧ (∀ x c, X.env.cells.lookup x = some c → c ≠ b) ∧ ∀ p ∈ X.pn ++ pins, p.1 ≠ b) : Inv X pins σ H' s' := by
  obtain ⟨h', g', d', t', o'⟩ := s'
  have e : o' = s.os := ho
  subst e
  exact I.call (g' := g') (t' := t') (d' := d') u hok hg hch
end

abbrev XK := Value → Option Addr → Hp → Prop
abbrev St := List (Option V)
abbrev VK := V → Hp → Prop
abbrev TE := St → Hp → VK → Prop
abbrev TT := St → Hp → (Bool → Hp → Prop) → Prop
abbrev TA := St → Hp → (List V → Hp → Prop) → Prop
structure Ends where
  nx : St → Hp → Prop
  rt : VK
  bk : St → Hp → Prop := fun _ _ => False
  ct : St → Hp → Prop := fun _ _ => False
abbrev TS := Ends → St → Hp → Prop

def EP (X : Cx) (pins : List (Addr × Obj)) (σ : St) (Q : VK) (u : Value) (s' : Shared) : Prop := ∃ v H', Inv X pins σ H' s' ∧ RelV v u ∧ Q v H'
def TP (X : Cx) (pins : List (Addr × Obj)) (σ : St) (Q : Bool → Hp → Prop) (b : Bool) (s' : Shared) : Prop := ∃ H', Inv X pins σ H' s' ∧ Q b H'
def AP (X : Cx) (pins : List (Addr × Obj)) (σ : St) (Q : List V → Hp → Prop) (us : List Value) (s' : Shared) : Prop := ∃ vs H', Inv X pins σ H' s' ∧ Vals vs us ∧ Q vs H'
def SP (X : Cx) (pins : List (Addr × Obj)) (D : Ends) (f : Flow) (s' : Shared) : Prop :=
  match f with
  | .next => ∃ σ' H', Inv X pins σ' H' s' ∧ D.nx σ' H'
  | .brk => ∃ σ' H', Inv X pins σ' H' s' ∧ D.bk σ' H'
  | .cont => ∃ σ' H', Inv X pins σ' H' s' ∧ D.ct σ' H'
  | .ret u => ∃ v σ' H', Inv X pins σ' H' s' ∧ RelV v u ∧ D.rt v H'

def PE (X : Cx) (e : Expr) (t : TE) : Prop :=
  ∀ (pins : List (Addr × Obj)) (s : Shared) (σ : St) (H : Hp) (Q : VK), Inv X pins σ H s → t σ H Q → wpAny (model X.prog X.w) X.A (eval e X.env) (EP X pins σ Q) X.xe s
def PT (X : Cx) (e : Expr) (t : TT) : Prop :=
  ∀ (pins : List (Addr × Obj)) (s : Shared) (σ : St) (H : Hp) (Q : Bool → Hp → Prop), Inv X pins σ H s → t σ H Q → wpAny (model X.prog X.w) X.A (isTrue e X.env (eval e X.env)) (TP X pins σ Q) X.xe s
def PW (X : Cx) (e : Expr) (t : TT) : Prop :=
  ∀ (whole : Sem Value) (pins : List (Addr × Obj)) (s : Shared) (σ : St) (H : Hp) (Q : Bool → Hp → Prop), Inv X pins σ H s → t σ H Q → wpAny (model X.prog X.w) X.A (isTrue e X.env whole) (TP X pins σ Q) X.xe s
theorem PW.pt {X : Cx} {e : Expr} {t : TT} (h : PW X e t) : PT X e t := h _
def PA (X : Cx) (es : List Expr) (t : TA) : Prop :=
  ∀ (pos : Pos) (pins : List (Addr × Obj)) (s : Shared) (σ : St) (H : Hp) (Q : List V → Hp → Prop), Inv X pins σ H s → t σ H Q → wpAny (model X.prog X.w) X.A (spliced (backTo pos (starEach es X.env))) (AP X pins σ Q) X.xe s
def PS (X : Cx) (st : Stmt) (t : TS) : Prop :=
  ∀ (pins : List (Addr × Obj)) (s : Shared) (σ : St) (H : Hp) (D : Ends), Inv X pins σ H s → t D σ H → wpAny (model X.prog X.w) X.A (exec st X.env) (SP X pins D) X.xe s
def PSs (X : Cx) (st : List Stmt) (t : TS) : Prop :=
  ∀ (pins : List (Addr × Obj)) (s : Shared) (σ : St) (H : Hp) (D : Ends), Inv X pins σ H s → t D σ H → wpAny (model X.prog X.w) X.A (execs st X.env) (SP X pins D) X.xe s
theorem thn {α : Type} {t : Sem α} {Q Q' : α → Shared → Prop} {M : Model} {A : Around} {E : Value → Shared → Prop} {s : Shared} (h : wpAny M A t Q E s) (hQ : ∀ a s, Q a s → Q' a s) : wpAny M A t Q' E s := wpAny_mono h hQ fun _ _ x => x
end L2

namespace L2
open PySem PySem.Spec PyProof.Rows
section
variable {X : Cx}

def tVar (i : Nat) : TE := fun σ H Q => ∃ v, σ[i]? = some (some v) ∧ Q v H
def tC (v : V) : TE := fun _ H Q => Q v H
theorem pe_var {i : Nat} {x : Str} {pos : Pos} (hN : X.N[i]? = some x) (hv : Vis X.env.scope x) (hd : (x == ("__debug__" : Str)) = false := by decide) (hcd : (x == ("__classdict__" : Str)) = false := by decide) : PE X (.Name x pos) (tVar i) := by
  intro pins s σ H Q I h
  obtain ⟨v, e, h⟩ := h
  obtain ⟨m, hn, hl⟩ := I.loc
  obtain ⟨u, r, l⟩ := hl i x v hN e hv
  have fin : EP X pins σ Q u s := ⟨v, H, I, r, h⟩
  rcases l with ⟨hk, hm⟩ | ⟨hk, c, hc, hcell⟩
  · exact wpAny_Name (wpAny_loadName_local I.ok.kind hk hn hm fin) hd
  · rcases hk with hk | hk
    · exact wpAny_Name (wpAny_loadName_cell I.ok.kind hk hc hcell fin) hd
    · exact wpAny_Name (wpAny_loadName_free I.ok.kind hk hc hcell fin hcd) hd
theorem pe_int {i j pos} : PE X (.Constant (.int i) j pos) (tC (.int i)) := fun _ _ _ H _ I h => wpAny_Constant_int ⟨.int i, H, I.tok _, ⟨_, rfl⟩, h⟩
theorem pe_bl {b j pos} : PE X (.Constant (.bool b) j pos) (tC (.bl b)) := fun _ _ _ H _ I h => Constant_bool ⟨.bl b, H, I, rfl, h⟩
theorem pe_non {j pos} : PE X (.Constant .none j pos) (tC .non) := fun _ _ _ H _ I h => Constant_none ⟨.non, H, I, rfl, h⟩
theorem pe_str {x j pos} : PE X (.Constant (.str x) j pos) (tC (.str x)) := fun _ _ _ H _ I h => Calls.Constant_str ⟨.str x, H, I.tok _, ⟨_, rfl⟩, h⟩

def Gl (X : Cx) (x : Str) : Prop := X.env.kindOf x = some .globalImplicit
theorem ld_glob {E : Value → Shared → Prop} {pins : List (Addr × Obj)} {s : Shared} {σ : St} {H : Hp} {x : Str} {u : Value} {pos : Pos} {Q : Value → Shared → Prop} (I : Inv X pins σ H s) (hg : Gl X x) (hm : X.mg x = some u) (h : Q u s)
    (hd : (x == ("__debug__" : Str)) = false := by decide) : wpAny (model X.prog X.w) X.A (eval (.Name x pos) X.env) Q E s :=
  Calls.Name_function_global I.ok.kind hg (Calls.loadGlobal_global (by rw [I.ok.glob]; exact I.mod.glob.keeps I.bk) hm h) hd
theorem ld_blt {E : Value → Shared → Prop} {pins : List (Addr × Obj)} {s : Shared} {σ : St} {H : Hp} {x : Str} {u : Value} {pos : Pos} {Q : Value → Shared → Prop} (I : Inv X pins σ H s) (hg : Gl X x) (hm : X.mg x = none) (hv : bootBuiltins x = some u) (h : Q u s)
    (hn : x ≠ "__name__" := by decide) (hd : (x == ("__debug__" : Str)) = false := by decide) : wpAny (model X.prog X.w) X.A (eval (.Name x pos) X.env) Q E s := by
  obtain ⟨mb, h1, h2⟩ := I.mod.blt
  exact Calls.Name_function_global I.ok.kind hg (Calls.loadGlobal_builtin (by rw [I.ok.glob]; exact I.mod.glob.keeps I.bk) hm (by rw [I.ok.blt]; exact h1.keeps I.bk) ((h2 x hn).trans hv) h) hd
theorem pe_glob {x : Str} {v : V} {u : Value} {pos : Pos} (hg : Gl X x) (hm : X.mg x = some u) (r : RelV v u) (hd : (x == ("__debug__" : Str)) = false := by decide) : PE X (.Name x pos) (tC v) :=
  fun _ _ _ H _ I h => ld_glob I hg hm ⟨v, H, I, r, h⟩ hd
theorem pe_bltn {x : Str} {v : V} {u : Value} {pos : Pos} (hg : Gl X x) (hm : X.mg x = none) (hv : bootBuiltins x = some u) (r : RelV v u) (hn : x ≠ "__name__" := by decide) (hd : (x == ("__debug__" : Str)) = false := by decide) : PE X (.Name x pos) (tC v) :=
  fun _ _ _ H _ I h => ld_blt I hg hm hv ⟨v, H, I, r, h⟩ hn hd

variable {a b : Expr} {ta tb : TE} {pos : Pos}
def tB (t : TE) : TT := fun σ H Q => t σ H fun x H1 => ∃ c, x = .bl c ∧ Q c H1
theorem pt_val {e : Expr} {t : TE} (h : PE X e t) (he : ∀ whole, isTrue e X.env whole = (do let v ← whole; standAt e.pos; holding [v] (truthy v)) := by intro _; rfl) : PT X e (tB t) := by
  intro pins s σ H Q I hw
  refine isTrue_plain (thn (h pins s σ H _ I hw) fun v s1 ⟨x, H1, I1, r1, q1⟩ => ?_) (he _)
  obtain ⟨d, rfl, q⟩ := q1
  cases r1
  exact wpAny_truthy_bool ⟨H1, I1, q⟩

variable {tA tB' : TT} {rest : List Expr}
def tAnd (t u : TT) : TT := fun σ H Q => t σ H fun c H1 => if c = true then u σ H1 Q else Q false H1
def tOr (t u : TT) : TT := fun σ H Q => t σ H fun c H1 => if c = true then Q true H1 else u σ H1 Q
def tNot (t : TT) : TT := fun σ H Q => t σ H fun c H1 => Q (!c) H1
theorem pw_and1 (ha : PT X a tA) : PW X (.BoolOp .And [a] pos) tA := by
  intro wh pins s σ H Q I h
  refine isTrue_and (thn (ha pins s σ H Q I h) fun c s1 e => ?_)
  cases c with
  | true => exact isTrue_and_nil e
  | false => exact e
theorem pw_or1 (ha : PT X a tA) : PW X (.BoolOp .Or [a] pos) tA := by
  intro wh pins s σ H Q I h
  refine isTrue_or (thn (ha pins s σ H Q I h) fun c s1 e => ?_)
  cases c with
  | false => exact isTrue_or_nil e
  | true => exact e
theorem pw_and (ha : PT X a tA) (hb : PW X (.BoolOp .And (b :: rest) pos) tB') : PW X (.BoolOp .And (a :: b :: rest) pos) (tAnd tA tB') := by
  intro wh pins s σ H Q I h
  refine isTrue_and (thn (ha pins s σ H _ I h) fun c s1 ⟨H1, I1, q1⟩ => ?_)
  cases c with
  | true => exact hb wh pins s1 σ H1 Q I1 q1
  | false => exact ⟨H1, I1, q1⟩
theorem pw_or (ha : PT X a tA) (hb : PW X (.BoolOp .Or (b :: rest) pos) tB') : PW X (.BoolOp .Or (a :: b :: rest) pos) (tOr tA tB') := by
  intro wh pins s σ H Q I h
  refine isTrue_or (thn (ha pins s σ H _ I h) fun c s1 ⟨H1, I1, q1⟩ => ?_)
  cases c with
  | true => exact ⟨H1, I1, q1⟩
  | false => exact hb wh pins s1 σ H1 Q I1 q1
theorem pt_not (ha : PT X a tA) : PT X (.UnaryOp .Not a pos) (tNot tA) := by
  intro pins s σ H Q I h
  exact isTrue_not (ha pins s σ H (fun c H1 => Q (!c) H1) I h)
def tAndV (ta tb : TE) : TE := fun σ H Q => ta σ H fun x H1 => ∃ c, x = .bl c ∧ if c = true then tb σ H1 Q else Q (.bl false) H1
def tNotV (ta : TE) : TE := fun σ H Q => ta σ H fun x H1 => ∃ c, x = .bl c ∧ Q (.bl (!c)) H1
theorem pe_one {op} {t : TE} (h : PE X a t) : PE X (.BoolOp op [a] pos) t := fun pins s σ H Q I hw => BoolOp_one (h pins s σ H Q I hw)
theorem pe_and (ha : PE X a ta) (hb : PE X (.BoolOp .And (b :: rest) pos) tb) : PE X (.BoolOp .And (a :: b :: rest) pos) (tAndV ta tb) := by
  intro pins s σ H Q I h
  refine BoolOp_and (thn (ha pins s σ H _ I h) fun v s1 ⟨x, H1, I1, r1, q1⟩ => ?_)
  obtain ⟨c, rfl, q1⟩ := q1
  cases r1
  refine wpAny_truthy_bool ?_
  cases c with
  | true => exact hb pins s1 σ H1 Q I1 q1
  | false => exact ⟨.bl false, H1, I1, rfl, q1⟩
theorem pe_not (ha : PE X a ta) : PE X (.UnaryOp .Not a pos) (tNotV ta) := by
  intro pins s σ H Q I h
  refine UnaryOp_ (thn (ha pins s σ H _ I h) fun v s1 ⟨x, H1, I1, r1, q1⟩ => ?_)
  obtain ⟨c, rfl, q1⟩ := q1
  cases r1
  exact not_of (wpAny_truthy_bool ⟨.bl (!c), H1, I1, rfl, q1⟩)
end
end L2

namespace L2
open PySem PySem.Spec PyProof.Rows

def SqL (K : PySem.W.Frag) (H : Hp) (a : Addr) (xs : List V) : Prop :=
  Rd H a (.lst xs) ∨
    ∃ (o : Obj) (its : Array Value) (n : Nat), K.lookup a = some o ∧ o.cls = .type "list" ∧ o.dict = none ∧ o.data = .seq its n ∧ its.size ≤ sizeLine ∧ Vals xs its.toList
def SqT (K : PySem.W.Frag) (H : Hp) (a : Addr) (xs : List V) : Prop :=
  Rd H a (.tup xs) ∨
    ∃ (o : Obj) (its : Array Value) (n : Nat), K.lookup a = some o ∧ o.cls = .type "tuple" ∧ o.data = .seq its n ∧ its.size ≤ sizeLine ∧ Vals xs its.toList
def absV : Value → Option V
  | .none => some .non
  | .bool b => some (.bl b)
  | .int i _ => some (.int i)
  | .str x _ => some (.str x)
  | .bytes b _ => some (.byt b)
  | .float b _ => some (.flt b)
  | .ref a => some (.ref a)
  | .type n => some (.ty n)
  | _ => none
theorem RelV.abs {x : V} {u : Value} (r : RelV x u) : absV u = some x := by
  cases x with
  | non => cases r; rfl
  | bl _ => cases r; rfl
  | int _ => obtain ⟨t, rfl⟩ := r; rfl
  | str _ => obtain ⟨t, rfl⟩ := r; rfl
  | byt _ => obtain ⟨t, rfl⟩ := r; rfl
  | flt _ => obtain ⟨t, rfl⟩ := r; rfl
  | ref _ => cases r; rfl
  | ty _ => cases r; rfl
theorem RelV.inj {x y : V} {u : Value} (r : RelV x u) (q : RelV y u) : x = y := Option.some.inj (r.abs.symm.trans q.abs)
theorem Vals.inj : ∀ {xs ys : List V} {us : List Value}, Vals xs us → Vals ys us → xs = ys
  | _, _, _, .nil, .nil => rfl
  | _, _, _, .cons r t, .cons r' t' => by rw [r.inj r', Vals.inj t t']
section
variable {X : Cx} {pins : List (Addr × Obj)} {σ : St} {H : Hp} {s : Shared} {a : Addr} {xs ys : List V}
theorem SqL.of {K : PySem.W.Frag} (h : H a = some (.lst xs)) : SqL K H a xs := .inl (.inl h)
theorem SqT.of {K : PySem.W.Frag} (h : H a = some (.tup xs)) : SqT K H a xs := .inl (.inl h)
theorem Inv.list (I : Inv X pins σ H s) (h : SqL X.K H a xs) : ∃ its : List Value, Vals xs its ∧ PlainL s.heap a its.toArray ∧ xs.length ≤ sizeLine := by
  rcases h with h | ⟨o, its, n, hk, hc, hd, hs, hz, r⟩
  · obtain ⟨z, its, n, r, e⟩ := h.ok I.hok
    exact ⟨its, r, ⟨_, n, e, rfl, rfl, rfl⟩, z⟩
  · refine ⟨its.toList, r, ⟨o, n, I.kIn a o hk, hc, hd, by simpa using hs⟩, ?_⟩
    have e := r.length
    simp only [Array.length_toList] at e
    omega
theorem Inv.tuple (I : Inv X pins σ H s) (h : SqT X.K H a xs) : ∃ its : List Value, Vals xs its ∧ IsTup s.heap a its.toArray ∧ xs.length ≤ sizeLine := by
  rcases h with h | ⟨o, its, n, hk, hc, hs, hz, r⟩
  · obtain ⟨z, its, r, p⟩ := h.ok I.hok
    exact ⟨its, r, p, z⟩
  · refine ⟨its.toList, r, ⟨o, I.kIn a o hk, hc, n, by simpa using hs⟩, ?_⟩
    have e := r.length
    simp only [Array.length_toList] at e
    omega
theorem Inv.list_inj (I : Inv X pins σ H s) (h : SqL X.K H a xs) (h' : SqL X.K H a ys) : xs = ys := by
  obtain ⟨its, r, ⟨o, n, e, _, _, d⟩, _⟩ := I.list h
  obtain ⟨its', r', ⟨o', n', e', _, _, d'⟩, _⟩ := I.list h'
  rw [e] at e'; cases e'
  rw [d] at d'
  injection d' with d1 _
  have : its = its' := by simpa using congrArg Array.toList d1
  subst this
  exact r.inj r'
end

abbrev Cx.wish (X : Cx) (E : Value → Shared → Prop) : Cx := { X with xe := E }
abbrev Cx.nox (X : Cx) : Cx := X.wish fun _ _ => False
theorem Cx.Ok.wish {X : Cx} (ok : X.Ok) (E : Value → Shared → Prop) : (X.wish E).Ok :=
  ⟨ok.mod, ok.kind, ok.glob, ok.blt, ok.above, ok.inj, ok.has, ok.cab, ok.hd, ok.frames, ok.stk, ok.exf, ok.bs, ok.bsz, ok.noex, ok.exfs, ok.funs, ok.frf⟩
theorem Cx.Ok.unwish {X : Cx} {E : Value → Shared → Prop} (ok : (X.wish E).Ok) : X.Ok :=
  ⟨ok.mod, ok.kind, ok.glob, ok.blt, ok.above, ok.inj, ok.has, ok.cab, ok.hd, ok.frames, ok.stk, ok.exf, ok.bs, ok.bsz, ok.noex, ok.exfs, ok.funs, ok.frf⟩
section
variable {X : Cx} {pins : List (Addr × Obj)} {σ : St} {H : Hp} {s : Shared} {E : Value → Shared → Prop}
theorem Inv.wish (I : Inv X pins σ H s) (E : Value → Shared → Prop) : Inv (X.wish E) pins σ H s := ⟨I.ok.wish E, I.os, I.bare, I.base, I.loc, I.cell, I.free, I.freeC, I.pin, I.hok, I.len⟩
theorem Inv.unwish (I : Inv (X.wish E) pins σ H s) : Inv X pins σ H s := ⟨I.ok.unwish, I.os, I.bare, I.base, I.loc, I.cell, I.free, I.freeC, I.pin, I.hok, I.len⟩
theorem SP.unwish {D : Ends} {f : Flow} {s' : Shared} (h : SP (X.wish E) pins D f s') : SP X pins D f s' := by
  cases f with
  | next => obtain ⟨σ', H', I, q⟩ := h; exact ⟨σ', H', I.unwish, q⟩
  | brk => obtain ⟨σ', H', I, q⟩ := h; exact ⟨σ', H', I.unwish, q⟩
  | cont => obtain ⟨σ', H', I, q⟩ := h; exact ⟨σ', H', I.unwish, q⟩
  | ret u => obtain ⟨v, σ', H', I, r, q⟩ := h; exact ⟨v, σ', H', I.unwish, r, q⟩
theorem PE.nox {e : Expr} {t : TE} (h : PE X.nox e t) : PE X e t := fun pins s σ H Q I hw =>
  wpAny_mono (h pins s σ H Q (I.wish _) hw) (fun _ _ ⟨v, H', I', r, q⟩ => ⟨v, H', I'.unwish, r, q⟩) fun _ _ z => False.elim z
theorem PT.nox {e : Expr} {t : TT} (h : PT X.nox e t) : PT X e t := fun pins s σ H Q I hw =>
  wpAny_mono (h pins s σ H Q (I.wish _) hw) (fun _ _ ⟨H', I', q⟩ => ⟨H', I'.unwish, q⟩) fun _ _ z => False.elim z
theorem PSs.nox {st : List Stmt} {t : TS} (h : PSs X.nox st t) : PSs X st t := fun pins s σ H D I hw =>
  wpAny_mono (h pins s σ H D (I.wish _) hw) (fun _ _ q => q.unwish) fun _ _ z => False.elim z
end

section
variable {X : Cx} {st : Stmt} {rest : List Stmt} {t u : TS} {e : Expr} {te : TE} {pos : Pos}
def tNext : TS := fun D σ H => D.nx σ H
def tSeq (t u : TS) : TS := fun D σ H => t { D with nx := u D } σ H
theorem pss_nil : PSs X [] tNext := fun _ _ σ H _ I h => wpAny_execs_nil ⟨σ, H, I, h⟩
theorem pss_cons (h1 : PS X st t) (h2 : PSs X rest u) : PSs X (st :: rest) (tSeq t u) := by
  intro pins s σ H D I h
  refine wpAny_execs_cons (thn (h1 pins s σ H { D with nx := u D } I h) fun f s1 q => ?_)
  cases f with
  | next =>
    obtain ⟨σ', H', I', q⟩ := q
    exact h2 pins s1 σ' H' D I' q
  | ret v => exact q
  | brk => exact q
  | cont => exact q
theorem pss_one (h1 : PS X st t) : PSs X [st] t := by
  intro pins s σ H D I h
  refine wpAny_execs_cons (thn (h1 pins s σ H D I h) fun f s1 q => ?_)
  cases f with
  | next => exact wpAny_execs_nil q
  | ret v => exact q
  | brk => exact q
  | cont => exact q
theorem Inv.quiet {pins : List (Addr × Obj)} {σ : St} {H : Hp} {s : Shared} (I : Inv X pins σ H s) : interactive X.env = false := by simp [interactive, I.ok.kind]
def tDrop (te : TE) : TS := fun D σ H => te σ H fun _ H1 => D.nx σ H1
theorem ps_expr (he : PE X e te) (hs : swapsWith e none pos.line X.env = pure false := by rfl) : PS X (.Expr e pos) (tDrop te) := by
  intro pins s σ H D I h
  exact wpAny_Expr_any (thn (he pins s σ H _ I h) fun v s1 ⟨x, H1, I1, r1, q1⟩ => ⟨σ, H1, I1, q1⟩) I.quiet hs
def tRet (te : TE) : TS := fun D σ H => te σ H D.rt
theorem ps_ret (he : PE X e te) : PS X (.Return (some e) pos) (tRet te) := by
  intro pins s σ H D I h
  exact wpAny_Return_some (thn (he pins s σ H _ I h) fun v s1 ⟨x, H1, I1, r1, q1⟩ => ⟨x, σ, H1, I1, r1, q1⟩)
def tIfS (c : TT) (t u : TS) : TS := fun D σ H => c σ H fun b H1 => if b = true then t D σ H1 else u D σ H1
theorem ps_if {c : Expr} {a b : List Stmt} {tc : TT} (hc : PT X c tc) (ha : PSs X a t) (hb : PSs X b u) : PS X (.If c a b pos) (tIfS tc t u) := by
  intro pins s σ H D I h
  refine wpAny_If (thn (hc pins s σ H _ I h) fun d s1 ⟨H1, I1, q1⟩ => ?_)
  cases d with
  | true => exact ha pins s1 σ H1 D I1 q1
  | false => exact hb pins s1 σ H1 D I1 q1
end

abbrev TG := V → St → Hp → (St → Hp → Prop) → Prop
def PG (X : Cx) (target : Expr) (t : TG) : Prop :=
  ∀ (pins : List (Addr × Obj)) (s : Shared) (σ : St) (H : Hp) (v : V) (u : Value) (Q : St → Hp → Prop), Inv X pins σ H s → RelV v u → t v σ H Q →
    wpAny (model X.prog X.w) X.A (assign target X.env u) (fun _ s' => ∃ σ' H', Inv X pins σ' H' s' ∧ Q σ' H') X.xe s
section
variable {X : Cx} {pos : Pos}
def gName (i : Nat) : TG := fun v σ H Q => Q (σ.set i (some v)) H
theorem pg_name {i : Nat} {x : Str} (hN : X.N.Nodup) (hi : X.N[i]? = some x) (hx : Loc X.env.scope x) (hf : X.fn x = true ∨ X.env.scope.names.lookup x = some .local := by first | exact .inl rfl | exact .inr rfl | assumption) : PG X (.Name x pos) (gName i) := by
  intro pins s σ H v u Q I r h
  exact wpAny_assign_Name (store_ok I hN hi hx r (fun s' I' => ⟨_, H, I', h⟩) hf)
def tAsg (te : TE) (g : TG) : TS := fun D σ H => te σ H fun x H1 => g x σ H1 D.nx
theorem ps_set {i : Nat} {x : Str} {e : Expr} {te : TE} {pos' : Pos} (hN : X.N.Nodup) (hi : X.N[i]? = some x) (hx : Loc X.env.scope x) (he : PE X e te) (hs : swapsWith e (some (.Name x pos')) pos.line X.env = pure false := by rfl) (hf : X.fn x = true ∨ X.env.scope.names.lookup x = some .local := by first | exact .inl rfl | exact .inr rfl | assumption) :
    PS X (.Assign [.Name x pos'] e pos) (tAsg te (gName i)) := by
  intro pins s σ H D I h
  refine wpAny_Assign_Name (thn (he pins s σ H _ I h) fun v s1 ⟨y, H1, I1, r1, q1⟩ => ?_) hs
  exact store_ok I1 hN hi hx r1 (fun s2 I2 => ⟨_, H1, I2, q1⟩) hf
end


structure It where
  go : Nat → Hp → Prop
  yld : Nat → Hp → V → Hp → Prop
  stop : Nat → Hp → Prop
def FpOk (X : Cx) (pins : List (Addr × Obj)) (H : Hp) (b : Addr) : Prop :=
  H b = none ∧ b ≠ X.env.locals ∧ b ∉ X.fs ∧ (b ∈ X.ex ∨ X.s₀.heap.objs.size ≤ b) ∧ (∀ x c, X.env.cells.lookup x = some c → c ≠ b) ∧ ∀ p ∈ X.pn ++ pins, p.1 ≠ b
theorem Inv.fpOk {X : Cx} {pins : List (Addr × Obj)} {σ : St} {H H' : Hp} {s : Shared} {b : Addr} (I : Inv X pins σ H s) (hb : s.heap.objs.size ≤ b) (hn : H' b = none) : FpOk X pins H' b := by
  refine ⟨hn, Nat.ne_of_gt (Nat.lt_of_lt_of_le I.lt hb), I.nofs hb, .inr (Nat.le_trans I.sz hb), fun x c e z => ?_, fun p hp z => ?_⟩
  · obtain ⟨v, q⟩ := I.cell x c e
    exact absurd (Nat.lt_of_lt_of_le q.lt (by rw [z]; exact hb)) (Nat.lt_irrefl _)
  · exact absurd (Nat.lt_of_lt_of_le (Heap.lt_size (I.pin p hp).1) (by rw [z]; exact hb)) (Nat.lt_irrefl _)
structure Turn (P : Program) (w : World) (K : PySem.W.Frag) (tg : Expr) (J : It) (fp : List Addr) (it : Addr) (tn : Nat → Heap → Prop) : Prop where
  mem : it ∈ fp
  obj : ∀ i h, tn i h → ∀ b ∈ fp, ∃ o, h.get? b = some o ∧ ∀ v, o.data ≠ .cell v
  keep : ∀ i h h', tn i h → (∀ b ∈ fp, ∀ o, h.get? b = some o → h'.get? b = some o) → tn i h'
  item : ∀ (X : Cx), X.prog = P → X.w = w → X.K = K → X.calm = true → ∀ (i : Nat) (pins : List (Addr × Obj)) (s : Shared) (σ : St) (H : Hp) (E : Value → Shared → Prop), Inv X pins σ H s → (∀ b ∈ fp, FpOk X pins H b) → tn i s.heap → J.go i H →
    wpAny (model P w) X.A (pyNext (.ref it)) (fun r s1 => ∃ u, r = some u ∧
      wpAny (model P w) X.A (letOwnedTupleGo tg (.ref it) u) (fun _ s2 => ∃ x H', Inv X pins σ H' s2 ∧ RelV x u ∧ J.yld i H x H' ∧ tn (i + 1) s2.heap ∧ ∀ b ∈ fp, H' b = none) E s1) E s
  done : ∀ (X : Cx), X.prog = P → X.w = w → X.K = K → X.calm = true → ∀ (i : Nat) (pins : List (Addr × Obj)) (s : Shared) (σ : St) (H : Hp) (E : Value → Shared → Prop), Inv X pins σ H s → (∀ b ∈ fp, FpOk X pins H b) → tn i s.heap → J.stop i H →
    wpAny (model P w) X.A (pyNext (.ref it)) (fun r s1 => r = none ∧ Inv X pins σ H s1) E s
  self : ∀ (A : Around) (i : Nat) (s : Shared) (Q : Value → Shared → Prop) (E : Value → Shared → Prop), tn i s.heap → Q (.ref it) s → wpAny (model P w) A (pyIter (.ref it)) Q E s
abbrev TI := St → Hp → (It → Hp → Prop) → Prop
def PIE (X : Cx) (pins : List (Addr × Obj)) (σ : St) (tg : Expr) (R : It → Hp → Prop) (itv : Value) (s2 : Shared) : Prop :=
  ∃ (it : Addr) (fp : List Addr) (tn : Nat → Heap → Prop) (J : It) (H' : Hp), itv = .ref it ∧ Inv X pins σ H' s2 ∧ Turn X.prog X.w X.K tg J fp it tn ∧ tn 0 s2.heap ∧ (∀ b ∈ fp, FpOk X pins H' b) ∧ R J H'
def PI (X : Cx) (tg iter : Expr) (wi : TI) : Prop :=
  ∀ (pins : List (Addr × Obj)) (s : Shared) (σ : St) (H : Hp) (R : It → Hp → Prop), Inv X pins σ H s → wi σ H R →
    wpAny (model X.prog X.w) X.A (eval iter X.env) (fun v s1 => wpAny (model X.prog X.w) X.A (pyIter v) (PIE X pins σ tg R) X.xe s1) X.xe s

theorem go_of {M : Model} {A : Around} {E : Value → Shared → Prop} {s : Shared} {tg : Expr} {it : Addr} {u : Value} {o : Obj} {n : String} {vs : Array Value} {Q : Unit → Shared → Prop} (ho : s.heap.get? it = some o) (hc : o.cls = .type n) (hd : o.data = .fields vs)
    (hn : ["enumerate", "zip", "dict_itemiterator", "dict_reverseitemiterator", "odict_iterator", "itertools.zip_longest", "itertools.pairwise"].contains n = false) (hQ : Q () s) : wpAny M A (letOwnedTupleGo tg (.ref it) u) Q E s := by
  unfold letOwnedTupleGo
  cases tg <;> first
    | exact wpAny_pure hQ
    | (cases u <;> first
        | exact wpAny_pure hQ
        | (refine wpAny_bind (wpAny_load ho ?_)
           rw [hc, hd]
           show wpAny M A (if (["enumerate", "zip", "dict_itemiterator", "dict_reverseitemiterator", "odict_iterator", "itertools.zip_longest", "itertools.pairwise"].contains n && vs[0]? == some (rawInt _)) = true then _ else _) Q E s
           rw [if_neg (by intro h; rw [hn, Bool.false_and] at h; cases h)]
           exact wpAny_pure hQ))

def Itl (K : PySem.W.Frag) (a : Addr) : It :=
  ⟨fun i H => ∃ xs x, SqL K H a xs ∧ xs[i]? = some x, fun i H x H' => H' = H ∧ ∀ xs, SqL K H a xs → xs[i]? = some x, fun i H => ∃ xs, SqL K H a xs ∧ xs.length ≤ i⟩
def Itr (lo : Int) (n : Nat) : It := ⟨fun i _ => i < n, fun i H x H' => H' = H ∧ x = .int (lo + i), fun i _ => n ≤ i⟩
theorem turn_list {P : Program} {w : World} {K : PySem.W.Frag} {tg : Expr} (a it : Addr) : Turn P w K tg (Itl K a) [it] it (fun i h => h.IsListIter it a i) where
  mem := by simp
  obj := fun i h st b hb => by
    have e : b = it := by simpa using hb
    subst e
    obtain ⟨o, e, c, d⟩ := st
    exact ⟨o, e, fun v z => by rw [d] at z; cases z⟩
  keep := fun i h h' st k => st.at fun o e => k it (by simp) o e
  item := by
    intro X hP hw hK hc i pins s σ H E I hf st hg
    subst hP hw hK
    obtain ⟨xs, x, hq, hx⟩ := hg
    obtain ⟨its, rv, p, hz⟩ := I.list hq
    obtain ⟨u, hu, ru⟩ := rv.get hx
    obtain ⟨f0, f1, f2, f3, f4, f5⟩ := hf it (by simp)
    refine wpAny_pyNext_list_item st p.isList (x := u) (by simpa using hu) fun h' st' sb => ?_
    have I1 : Inv X pins σ H { s with heap := h' } := I.turned (t' := s.toks) (fun b o hb e => (sb.2 b hb).trans e) f0 f1 f3 f4 f5
    obtain ⟨o, e, c, d⟩ := id st'
    exact ⟨u, rfl, go_of (s := { s with heap := h' }) e c d (by decide) ⟨x, H, I1, ru, ⟨rfl, fun ys hy => by rw [I.list_inj hy hq]; exact hx⟩, st', fun b hb => (hf b hb).1⟩⟩
  done := by
    intro X hP hw hK hc i pins s σ H E I hf st hg
    subst hP hw hK
    obtain ⟨xs, hq, hx⟩ := hg
    obtain ⟨its, rv, p, hz⟩ := I.list hq
    obtain ⟨f0, f1, f2, f3, f4, f5⟩ := hf it (by simp)
    have hl := rv.length
    exact wpAny_pyNext_list_end (I.ok.hd hc) st p.isList (by simp; omega) fun h' eb => ⟨rfl, I.turned (t' := s.toks) (fun b o hb e => eb b o hb e) f0 f1 f3 f4 f5⟩
  self := fun _ _ _ _ _ st h => wpAny_pyIter_listiter st h
theorem turn_range {P : Program} {w : World} {K : PySem.W.Frag} {tg : Expr} (it : Addr) (lo : Int) (n : Nat) : Turn P w K tg (Itr lo n) [it] it (fun i h => IsRangeIter h it (lo + (i : Nat) * 1) ((n : Int) - (i : Nat)) 1) where
  mem := by simp
  obj := fun i h st b hb => by
    have e : b = it := by simpa using hb
    subst e
    exact ⟨_, st, fun v z => by
      have z' : Data.fields _ = Data.cell v := z
      cases z'⟩
  keep := fun i h h' st k => k it (by simp) _ st
  item := by
    intro X hP hw hK hc i pins s σ H E I hf st hg
    subst hP hw hK
    obtain ⟨f0, f1, f2, f3, f4, f5⟩ := hf it (by simp)
    have W := Walks.range (prog := X.prog) (w := X.w) (I.ok.hd hc) it lo 1 n
    refine W.item i s _ _ hg st fun v h' tk hv st' kk => ?_
    obtain ⟨t, rfl⟩ := hv
    have I1 : Inv X pins σ H { s with heap := h', toks := tk } := I.turned (fun b o hb e => kk b o (by simpa using hb) e) f0 f1 f3 f4 f5
    refine ⟨_, rfl, go_of (s := { s with heap := h', toks := tk }) (n := "range_iterator") st' rfl rfl (by decide) ⟨.int (lo + i), H, I1, ⟨t, ?_⟩, ⟨rfl, rfl⟩, st', fun b hb => (hf b hb).1⟩⟩
    rw [Int.mul_one]
  done := by
    intro X hP hw hK hc i pins s σ H E I hf st hg
    subst hP hw hK
    obtain ⟨f0, f1, f2, f3, f4, f5⟩ := hf it (by simp)
    exact wpAny_pyNext_range_end (I.ok.hd hc) st (by have : n ≤ i := hg; omega) fun h' eb => ⟨rfl, I.turned (t' := s.toks) (fun b o hb e => eb b o hb e) f0 f1 f3 f4 f5⟩
  self := fun _ _ _ _ _ st h => wpAny_pyIter_rangeiter st h
end L2

namespace L2
open PySem PySem.Spec PyProof.Rows
section
variable {X : Cx} {tg : Expr}
def iList (K : PySem.W.Frag) (tl : TE) : TI := fun σ H R => tl σ H fun x H1 => ∃ a, x = .ref a ∧ (∃ xs, SqL K H1 a xs) ∧ R (Itl K a) H1
theorem pi_list {l : Expr} {tl : TE} (hl : PE X l tl) : PI X tg l (iList X.K tl) := by
  intro pins s σ H R I h
  refine thn (hl pins s σ H _ I h) fun v s1 ⟨x, H1, I1, r1, q1⟩ => ?_
  obtain ⟨a, e, ⟨xs, hq⟩, q⟩ := q1
  subst e
  cases r1
  obtain ⟨its, rv, p, hz⟩ := I1.list hq
  refine wpAny_pyIter_list p.isList ?_
  refine ⟨s1.heap.objs.size, [s1.heap.objs.size], _, _, H1, rfl, I1.kept (t' := s1.toks) fun b o e => Heap.get?_push_of_some _ e, turn_list a _, ⟨_, Heap.get?_push_size _ rfl, rfl, rfl⟩, fun b hb => ?_, q⟩
  have e : b = s1.heap.objs.size := by simpa using hb
  subst e
  exact I1.fpOk (Nat.le_refl _) (I1.hok.fresh (Nat.le_refl _))
theorem range_it {pins : List (Addr × Obj)} {σ : St} {H : Hp} {s : Shared} {R : It → Hp → Prop} {E : Value → Shared → Prop} {lo hi : Int} {t u v : Tok} {tk : Nat} (I : Inv X pins σ H s) (h1 : -(2 ^ 62) ≤ lo) (h2 : lo < 2 ^ 62) (h3 : -(2 ^ 62) ≤ hi) (h4 : hi < 2 ^ 62)
    (q : R (Itr lo (hi - lo).toNat) H) : wpAny (model X.prog X.w) X.A (pyIter (.ref s.heap.objs.size)) (PIE X pins σ tg R) E { s with heap := s.heap.push { cls := .type "range", data := .fields #[.int lo t, .int hi u, .int 1 v] }, toks := tk } := by
  refine wpAny_pyIter_range (IsRange.new ..) (small_one h1 h2 h3 h4) ?_
  have I1 : Inv X pins σ H { s with heap := s.heap.push { cls := .type "range", data := .fields #[.int lo t, .int hi u, .int 1 v] }, toks := tk } := I.kept fun b o e => Heap.get?_push_of_some _ e
  refine ⟨(s.heap.push { cls := .type "range", data := .fields #[.int lo t, .int hi u, .int 1 v] }).objs.size, [(s.heap.push { cls := .type "range", data := .fields #[.int lo t, .int hi u, .int 1 v] }).objs.size], _, _, H, rfl,
    I1.kept (t' := tk) fun b o e => Heap.get?_push_of_some _ e, turn_range _ lo (hi - lo).toNat, ?_, fun b hb => ?_, q⟩
  · have e1 : lo + ((0 : Nat) : Int) * 1 = lo := by simp
    have e2 : (((hi - lo).toNat : Nat) : Int) - ((0 : Nat) : Int) = Builtin.Range.rangeSize lo hi 1 := by rw [rangeSize_one]; split <;> omega
    show IsRangeIter _ _ (lo + ((0 : Nat) : Int) * 1) ((((hi - lo).toNat : Nat) : Int) - ((0 : Nat) : Int)) 1
    rw [e1, e2]
    exact Heap.get?_push_size _ rfl
  · have e : b = (s.heap.push { cls := .type "range", data := .fields #[.int lo t, .int hi u, .int 1 v] }).objs.size := by simpa using hb
    subst e
    exact I1.fpOk (Nat.le_refl _) (I1.hok.fresh (Nat.le_refl _))
def iRng1 (ta : TA) : TI := fun σ H R => ta σ H fun vs H1 => ∃ j : Int, vs = [.int j] ∧ -(2 ^ 62) ≤ j ∧ j < 2 ^ 62 ∧ R (Itr 0 j.toNat) H1
theorem pi_range1 {a : Expr} {ta : TA} {p pos : Pos} (hg : Gl X "range") (hm : X.mg "range" = none) (ha : PA X [a] ta) (hs : starEach [a] X.env = [(false, eval a X.env)] := by rfl) : PI X tg (.Call (.Name "range" p) [a] [] pos) (iRng1 ta) := by
  intro pins s σ H R I h
  refine Call_ (ld_blt I hg hm boot_range (PyProof.Rows.callWith_type1 (thn (ha pos pins s σ H _ I h) fun us s1 ⟨vs, H1, I1, r1, q1⟩ => ?_) hs rfl))
  obtain ⟨j, e, q1, q2, q⟩ := q1
  subst e
  cases r1 with
  | cons r rr =>
    cases rr
    obtain ⟨t, rfl⟩ := r
    exact call_range_1 (range_it I1 (by omega) (by omega) q1 q2 (by simpa using q))
def tFor (wi : TI) (g : TG) (tb : TS) : TS := fun D σ H => wi σ H fun J H1 => ∃ W : Nat → Nat → St → Hp → Prop, (∃ m, W 0 m σ H1) ∧ ∀ i m σ H, W i m σ H →
  (J.stop i H ∧ D.nx σ H) ∨ (J.go i H ∧ ∃ N : St → Hp → Prop, (∀ σ' H', N σ' H' → ∃ m', m' < m ∧ W (i + 1) m' σ' H') ∧ ∀ x H', J.yld i H x H' → g x σ H' fun σ2 H2 => tb { D with nx := N, ct := N, bk := D.nx } σ2 H2)
def pinsAt (fp : List Addr) (h : Heap) : List (Addr × Obj) := fp.filterMap fun b => (h.get? b).map fun o => (b, o)
theorem mem_pinsAt {fp : List Addr} {h : Heap} {b : Addr} {o : Obj} (hb : b ∈ fp) (e : h.get? b = some o) : (b, o) ∈ pinsAt fp h := List.mem_filterMap.mpr ⟨b, hb, by rw [e]; rfl⟩
theorem of_pinsAt {fp : List Addr} {h : Heap} {p : Addr × Obj} (hp : p ∈ pinsAt fp h) : p.1 ∈ fp ∧ h.get? p.1 = some p.2 := by
  obtain ⟨b, hb, e⟩ := List.mem_filterMap.mp hp
  cases q : h.get? b with
  | none => rw [q] at e; cases e
  | some o =>
    rw [q] at e
    have e' : (b, o) = p := Option.some.inj e
    subst e'
    exact ⟨hb, q⟩
theorem Inv.pinned {pins : List (Addr × Obj)} {σ : St} {H : Hp} {s : Shared} {fp : List Addr} (I : Inv X pins σ H s) (hf : ∀ b ∈ fp, FpOk X pins H b) (ho : ∀ b ∈ fp, ∃ o, s.heap.get? b = some o ∧ ∀ v, o.data ≠ .cell v) : Inv X (pins ++ pinsAt fp s.heap) σ H s :=
  I.pins_of fun p hp => (List.mem_append.mp hp).elim (fun z => I.pin p (List.mem_append_right _ z)) fun z => by
    obtain ⟨hb, e⟩ := of_pinsAt z
    obtain ⟨f0, f1, f2, _⟩ := hf p.1 hb
    obtain ⟨o, e', d⟩ := ho p.1 hb
    rw [e] at e'; cases e'
    exact ⟨e, f0, f1, f2, d⟩
theorem Inv.unpinned {pins pl : List (Addr × Obj)} {σ : St} {H : Hp} {s : Shared} (I : Inv X (pins ++ pl) σ H s) : Inv X pins σ H s := I.pins_of fun p hp => I.pin p (List.mem_append_right _ (List.mem_append_left _ hp))
theorem ps_for {iter : Expr} {body : List Stmt} {wi : TI} {g : TG} {tb : TS} {pos : Pos} (hp : PassesOwn (model X.prog X.w) X.A X.env X.xe) (hc : X.calm = true) (hi : PI X tg iter wi) (hg : PG X tg g) (hb : PSs X body tb)
    (hs : ∀ x, foldedSetIterable iter X.env x = pure x := by intro _; rfl) : PS X (.For tg iter body [] pos) (tFor wi g tb) := by
  intro pins s σ H D I h
  refine wpAny_For (thn (hi pins s σ H _ I h) fun v s1 h1 => thn h1 fun itv s2 h2 => ?_) hs
  obtain ⟨it, fp, tn, J, H2, e, I2, T, st2, f2, W, ⟨m0, w0⟩, turn⟩ := h2
  subst e
  -- what stays true of the iterator's objects through the loop
  have stat : ∀ {H' : Hp}, (∀ b ∈ fp, H' b = none) → ∀ b ∈ fp, FpOk X pins H' b := fun hn b hb => ⟨hn b hb, (f2 b hb).2⟩
  refine codeAny_forLoop_any (fun n s' => ∃ i σ' H', Inv X pins σ' H' s' ∧ tn i s'.heap ∧ (∀ b ∈ fp, H' b = none) ∧ W i n σ' H') ?_ m0 ⟨0, σ, H2, I2, st2, fun b hb => (f2 b hb).1, w0⟩
  rintro n s3 ⟨i, σ3, H3, I3, st3, fr3, w3⟩
  rcases turn i n σ3 H3 w3 with ⟨stop, qn⟩ | ⟨go, N, hN, step⟩
  · refine wpAny_passesOwn hp (thn (T.done X rfl rfl rfl hc i pins s3 σ3 H3 X.xe I3 (stat fr3) st3 stop) fun r s4 ⟨hr, I4⟩ => ?_)
    subst hr
    exact wpAny_execs_nil ⟨σ3, H3, I4, qn⟩
  · refine wpAny_passesOwn hp (thn (T.item X rfl rfl rfl hc i pins s3 σ3 H3 X.xe I3 (stat fr3) st3 go) fun r s4 ⟨u, hr, h4⟩ => ?_)
    subst hr
    refine wpAny_passesOwn hp (thn h4 fun _ s5 ⟨x, H5, I5, r5, y5, st5, fr5⟩ => ?_)
    have I5' := I5.pinned (stat fr5) (T.obj _ _ st5)
    refine wpAny_passesOwn hp (thn (hg _ s5 σ3 H5 x u _ I5' r5 (step x H5 y5)) fun _ s6 ⟨σ6, H6, I6, q6⟩ => ?_)
    refine wpAny_passesOwn hp (thn (hb _ s6 σ6 H6 _ I6 q6) fun f s7 q7 => ?_)
    have again : ∀ {σ7 : St} {H7 : Hp}, Inv X (pins ++ pinsAt fp s5.heap) σ7 H7 s7 → N σ7 H7 → ∃ m, m < n ∧ ∃ i σ' H', Inv X pins σ' H' s7 ∧ tn i s7.heap ∧ (∀ b ∈ fp, H' b = none) ∧ W i m σ' H' := fun {σ7 H7} I7 n7 => by
      obtain ⟨m', hm, w7⟩ := hN σ7 H7 n7
      refine ⟨m', hm, i + 1, σ7, H7, I7.unpinned, T.keep _ _ _ st5 fun b hb o e => (I7.pin (b, o) (List.mem_append_right _ (List.mem_append_right _ (mem_pinsAt hb e)))).1, fun b hb => ?_, w7⟩
      obtain ⟨o, e, d⟩ := T.obj _ _ st5 b hb
      exact (I7.pin (b, o) (List.mem_append_right _ (List.mem_append_right _ (mem_pinsAt hb e)))).2.1
    cases f with
    | next => obtain ⟨σ7, H7, I7, n7⟩ := q7; exact again I7 n7
    | cont => obtain ⟨σ7, H7, I7, n7⟩ := q7; exact again I7 n7
    | brk => obtain ⟨σ7, H7, I7, q7⟩ := q7; exact ⟨σ7, H7, I7.unpinned, q7⟩
    | ret v => obtain ⟨x7, σ7, H7, I7, r7, q7⟩ := q7; exact ⟨x7, σ7, H7, I7.unpinned, r7, q7⟩
end

end L2

namespace L2
open PySem PySem.Spec PyProof.Rows

abbrev R2 := V → V → Hp → VK → Prop
def OpR (X : Cx) (f : Value → Value → Sem Value) (r : R2) : Prop :=
  ∀ (pins : List (Addr × Obj)) (s : Shared) (σ : St) (H : Hp) (x y : V) (v u : Value) (Q : VK), Inv X pins σ H s → RelV x v → RelV y u → r x y H Q →
    wpAny (model X.prog X.w) X.A (f v u) (EP X pins σ Q) X.xe s
def UnR (X : Cx) (f : Value → Sem Value) (r : V → Hp → VK → Prop) : Prop :=
  ∀ (pins : List (Addr × Obj)) (s : Shared) (σ : St) (H : Hp) (x : V) (v : Value) (Q : VK), Inv X pins σ H s → RelV x v → r x H Q →
    wpAny (model X.prog X.w) X.A (f v) (EP X pins σ Q) X.xe s
def CallR (X : Cx) (f : Value) (r : List V → Hp → VK → Prop) : Prop :=
  ∀ (pins : List (Addr × Obj)) (s : Shared) (σ : St) (H : Hp) (xs : List V) (us : List Value) (Q : VK), Inv X pins σ H s → Vals xs us → r xs H Q →
    wpAny (model X.prog X.w) X.A (call f us) (EP X pins σ Q) X.xe s
def tOp (r : R2) (ta tb : TE) : TE := fun σ H Q => ta σ H fun x H1 => tb σ H1 fun y H2 => r x y H2 Q
def tUn (r : V → Hp → VK → Prop) (ta : TE) : TE := fun σ H Q => ta σ H fun x H1 => r x H1 Q
def rI (C : Int → Int → Prop) (g : Int → Int → V) : R2 := fun x y H Q => ∃ i j, x = .int i ∧ y = .int j ∧ C i j ∧ Q (g i j) H
def rI0 (g : Int → Int → V) : R2 := fun x y H Q => ∃ i j, x = .int i ∧ y = .int j ∧ Q (g i j) H
def rU (g : Int → V) : V → Hp → VK → Prop := fun x H Q => ∃ i, x = .int i ∧ Q (g i) H

section
variable {X : Cx} {a b c : Expr} {ta tb tc : TE} {pos : Pos}

theorem binT (ha : PE X a ta) (hb : PE X b tb) {pins : List (Addr × Obj)} {s : Shared} {σ : St} {H : Hp} {R : V → V → Hp → Prop} (I : Inv X pins σ H s)
    (h : ta σ H fun x H1 => tb σ H1 fun y H2 => R x y H2) {Q : Value → Shared → Prop} {f : Value → Value → Sem Value}
    (hf : ∀ v u s2 x y H2, Inv X pins σ H2 s2 → RelV x v → RelV y u → R x y H2 → wpAny (model X.prog X.w) X.A (f v u) Q X.xe s2) :
    wpAny (model X.prog X.w) X.A (eval a X.env) (fun v s₁ => wpAny (model X.prog X.w) X.A (eval b X.env) (fun u s₂ => wpAny (model X.prog X.w) X.A (f v u) Q X.xe s₂) X.xe s₁) X.xe s := by
  refine thn (ha pins s σ H _ I h) fun v s1 ⟨x, H1, I1, r1, q1⟩ => ?_
  refine thn (hb pins s1 σ H1 _ I1 q1) fun u s2 ⟨y, H2, I2, r2, q2⟩ => ?_
  exact hf v u s2 x y H2 I2 r1 r2 q2

theorem pe_op {op : Operator} {r : R2} (ho : OpR X (binaryOp op) r) (ha : PE X a ta) (hb : PE X b tb) : PE X (.BinOp a op b pos) (tOp r ta tb) := by
  intro pins s σ H Q I h
  exact wpAny_BinOp (binT ha hb I h fun v u s2 x y H2 I2 rx ry q => ho pins s2 σ H2 x y v u Q I2 rx ry q)
theorem pe_un {op : UnaryOp} {r : V → Hp → VK → Prop} (ho : UnR X (unaryOp op) r) (ha : PE X a ta) : PE X (.UnaryOp op a pos) (tUn r ta) := by
  intro pins s σ H Q I h
  exact UnaryOp_ (thn (ha pins s σ H _ I h) fun v s1 ⟨x, H1, I1, r1, q1⟩ => ho pins s1 σ H1 x v Q I1 r1 q1)
theorem opI {f : Value → Value → Sem Value} {C : Int → Int → Prop} {g : Int → Int → Int}
    (rule : ∀ (i j : Int) (t u : Tok) (s : Shared) (Q : Value → Shared → Prop) (E : Value → Shared → Prop), C i j → Q (.int (g i j) s.toks) { s with toks := s.toks + 1 } → wpAny (model X.prog X.w) X.A (f (.int i t) (.int j u)) Q E s) :
    OpR X f (rI C fun i j => .int (g i j)) := by
  intro pins s σ H x y v u Q I rx ry h
  obtain ⟨i, j, rfl, rfl, hc, q⟩ := h
  obtain ⟨t, rfl⟩ := rx
  obtain ⟨t', rfl⟩ := ry
  exact rule i j t t' s _ _ hc ⟨.int (g i j), H, I.tok _, ⟨_, rfl⟩, q⟩
theorem opI0 {f : Value → Value → Sem Value} {g : Int → Int → Int}
    (rule : ∀ (i j : Int) (t u : Tok) (s : Shared) (Q : Value → Shared → Prop) (E : Value → Shared → Prop), Q (.int (g i j) s.toks) { s with toks := s.toks + 1 } → wpAny (model X.prog X.w) X.A (f (.int i t) (.int j u)) Q E s) :
    OpR X f (rI0 fun i j => .int (g i j)) := by
  intro pins s σ H x y v u Q I rx ry h
  obtain ⟨i, j, rfl, rfl, q⟩ := h
  obtain ⟨t, rfl⟩ := rx
  obtain ⟨t', rfl⟩ := ry
  exact rule i j t t' s _ _ ⟨.int (g i j), H, I.tok _, ⟨_, rfl⟩, q⟩
theorem opB0 {f : Value → Value → Sem Value} {g : Int → Int → Bool}
    (rule : ∀ (i j : Int) (t u : Tok) (s : Shared) (Q : Value → Shared → Prop) (E : Value → Shared → Prop), Q (.bool (g i j)) s → wpAny (model X.prog X.w) X.A (f (.int i t) (.int j u)) Q E s) :
    OpR X f (rI0 fun i j => .bl (g i j)) := by
  intro pins s σ H x y v u Q I rx ry h
  obtain ⟨i, j, rfl, rfl, q⟩ := h
  obtain ⟨t, rfl⟩ := rx
  obtain ⟨t', rfl⟩ := ry
  exact rule i j t t' s _ _ ⟨.bl (g i j), H, I, rfl, q⟩

def CDiv (i j : Int) : Prop := 0 < j ∧ j < 1073741824
def CMul (i j : Int) : Prop := (-(2 ^ 64) < i ∧ i < 2 ^ 64) ∨ (-(2 ^ 64) < j ∧ j < 2 ^ 64)
theorem CMul.ok {i j : Int} (h : CMul i j) : IntMulOk i j := by
  rcases h with ⟨h1, h2⟩ | ⟨h1, h2⟩
  · exact .of_left (intBits_le_64 h1 h2)
  · exact .of_right (intBits_le_64 h1 h2)
theorem op_add : OpR X (binaryOp .Add) (rI0 fun i j => .int (i + j)) := opI0 fun _ _ _ _ _ _ _ q => add_int q
theorem op_mul : OpR X (binaryOp .Mult) (rI CMul fun i j => .int (i * j)) := opI fun _ _ _ _ _ _ _ hc q => mul_int q hc.ok
theorem op_fdiv : OpR X (binaryOp .FloorDiv) (rI CDiv fun i j => .int (i / j)) := opI fun i j _ _ _ _ _ hc q => by
  have h1 : (0 : Int) < j := hc.1
  have h2 : j < 1073741824 := hc.2
  exact floordiv_int (by omega) (by rw [Int.fdiv_eq_ediv_of_nonneg i (by omega)]; exact q) (.inl (PyProof.noPylong_small (by omega)))
theorem op_mod : OpR X (binaryOp .Mod) (rI (fun _ j => 0 < j) fun i j => .int (i % j)) := opI fun i j _ _ _ _ _ hc q => by
  have h1 : (0 : Int) < j := hc
  exact mod_int' (by omega) (by rw [Int.fmod_eq_emod_of_nonneg i (by omega)]; exact q)
theorem unI {f : Value → Sem Value} {g : Int → Int}
    (rule : ∀ (i : Int) (t : Tok) (s : Shared) (Q : Value → Shared → Prop) (E : Value → Shared → Prop), Q (.int (g i) s.toks) { s with toks := s.toks + 1 } → wpAny (model X.prog X.w) X.A (f (.int i t)) Q E s) :
    UnR X f (rU fun i => .int (g i)) := by
  intro pins s σ H x v Q I rx h
  obtain ⟨i, rfl, q⟩ := h
  obtain ⟨t, rfl⟩ := rx
  exact rule i t s _ _ ⟨.int (g i), H, I.tok _, ⟨_, rfl⟩, q⟩
theorem un_neg : UnR X (unaryOp .USub) (rU fun i => .int (-i)) := unI fun _ _ _ _ _ q => neg_int q
end

def scal : V → V → Bool
  | .non, .non => true | .non, .int _ => true | .int _, .non => true | .non, .bl _ => true | .bl _, .non => true | .non, .str _ => true | .str _, .non => true
  | .int _, .int _ => true | .bl _, .bl _ => true | .str _, .str _ => true | .byt _, .byt _ => true
  | .int _, .str _ => true | .str _, .int _ => true | .bl _, .str _ => true | .str _, .bl _ => true
  | _, _ => false
def rEq : R2 := fun x y H Q => scal x y = true ∧ Q (.bl (decide (x = y))) H
def rNe : R2 := fun x y H Q => scal x y = true ∧ Q (.bl (!decide (x = y))) H

theorem dec_int {i j : Int} : decide (V.int i = V.int j) = (i == j) := by
  rw [Bool.eq_iff_iff]
  simp
theorem dec_bl {i j : Bool} : decide (V.bl i = V.bl j) = (i == j) := by
  rw [Bool.eq_iff_iff]
  simp
theorem dec_str {i j : Str} : decide (V.str i = V.str j) = (i == j) := by
  rw [Bool.eq_iff_iff]
  simp
theorem dec_byt {i j : Array UInt8} : decide (V.byt i = V.byt j) = (i.toList == j.toList) := by
  rw [Bool.eq_iff_iff]
  cases i
  cases j
  simp

section
variable {X : Cx} {a b c : Expr} {ta tb tc : TE} {pos : Pos}
theorem fin_bl {pins : List (Addr × Obj)} {σ : St} {H : Hp} {s : Shared} {Q : VK} {k k' : Bool} (I : Inv X pins σ H s) (q : Q (.bl k) H) (e : k = k') : EP X pins σ Q (.bool k') s := by
  subst e
  exact ⟨.bl k, H, I, rfl, q⟩
theorem op_eq : OpR X (compareOp .Eq) rEq := by
  intro pins s σ H x y v u Q I rx ry h
  obtain ⟨hs, q⟩ := h
  cases x with
  | non =>
    cases rx
    cases y with
    | non => cases ry; exact PySem.EqNone.eq_none_none (fin_bl I q (by simp))
    | bl j => cases ry; exact PySem.EqNone.eq_none_bool (fin_bl I q (by simp))
    | int j => obtain ⟨t', rfl⟩ := ry; exact PySem.EqNone.eq_none_int (fin_bl I q (by simp))
    | str j => obtain ⟨t', rfl⟩ := ry; exact PySem.EqNone.eq_none_str (fin_bl I q (by simp))
    | _ => exact absurd (show false = true from hs) Bool.false_ne_true
  | bl i =>
    cases rx
    cases y with
    | non => cases ry; exact PySem.EqNone.eq_bool_none (fin_bl I q (by simp))
    | bl j => cases ry; exact eq_bool (fin_bl I q dec_bl)
    | str j => obtain ⟨t', rfl⟩ := ry; exact PySem.EqMixed.eq_bool_str (fin_bl I q (by simp))
    | _ => exact absurd (show false = true from hs) Bool.false_ne_true
  | int i =>
    obtain ⟨t, rfl⟩ := rx
    cases y with
    | non => cases ry; exact PySem.EqNone.eq_int_none (fin_bl I q (by simp))
    | int j => obtain ⟨t', rfl⟩ := ry; exact eq_int (fin_bl I q dec_int)
    | str j => obtain ⟨t', rfl⟩ := ry; exact PySem.EqMixed.eq_int_str (fin_bl I q (by simp))
    | _ => exact absurd (show false = true from hs) Bool.false_ne_true
  | str i =>
    obtain ⟨t, rfl⟩ := rx
    cases y with
    | non => cases ry; exact PySem.EqNone.eq_str_none (fin_bl I q (by simp))
    | bl j => cases ry; exact PySem.EqMixed.eq_str_bool (fin_bl I q (by simp))
    | int j => obtain ⟨t', rfl⟩ := ry; exact PySem.EqMixed.eq_str_int (fin_bl I q (by simp))
    | str j => obtain ⟨t', rfl⟩ := ry; exact eq_str (fin_bl I q dec_str)
    | _ => exact absurd (show false = true from hs) Bool.false_ne_true
  | byt i =>
    obtain ⟨t, rfl⟩ := rx
    cases y with
    | byt j => obtain ⟨t', rfl⟩ := ry; exact PySem.W.eq_bytes (fin_bl I q dec_byt)
    | _ => exact absurd (show false = true from hs) Bool.false_ne_true
  | _ => cases y <;> exact absurd (show false = true from hs) Bool.false_ne_true
theorem op_ne : OpR X (compareOp .NotEq) rNe := by
  intro pins s σ H x y v u Q I rx ry h
  obtain ⟨hs, q⟩ := h
  cases x with
  | non =>
    cases rx
    cases y with
    | non => cases ry; exact PySem.EqNone.ne_none_none (fin_bl I q (by simp))
    | bl j => cases ry; exact PySem.EqNone.ne_none_bool (fin_bl I q (by simp))
    | int j => obtain ⟨t', rfl⟩ := ry; exact PySem.EqNone.ne_none_int (fin_bl I q (by simp))
    | str j => obtain ⟨t', rfl⟩ := ry; exact PySem.EqNone.ne_none_str (fin_bl I q (by simp))
    | _ => exact absurd (show false = true from hs) Bool.false_ne_true
  | bl i =>
    cases rx
    cases y with
    | non => cases ry; exact PySem.EqNone.ne_bool_none (fin_bl I q (by simp))
    | bl j => cases ry; exact ne_bool (fin_bl I q (congrArg not dec_bl))
    | str j => obtain ⟨t', rfl⟩ := ry; exact PySem.EqMixed.ne_bool_str (fin_bl I q (by simp))
    | _ => exact absurd (show false = true from hs) Bool.false_ne_true
  | int i =>
    obtain ⟨t, rfl⟩ := rx
    cases y with
    | non => cases ry; exact PySem.EqNone.ne_int_none (fin_bl I q (by simp))
    | int j => obtain ⟨t', rfl⟩ := ry; exact ne_int (fin_bl I q (congrArg not dec_int))
    | str j => obtain ⟨t', rfl⟩ := ry; exact PySem.EqMixed.ne_int_str (fin_bl I q (by simp))
    | _ => exact absurd (show false = true from hs) Bool.false_ne_true
  | str i =>
    obtain ⟨t, rfl⟩ := rx
    cases y with
    | non => cases ry; exact PySem.EqNone.ne_str_none (fin_bl I q (by simp))
    | bl j => cases ry; exact PySem.EqMixed.ne_str_bool (fin_bl I q (by simp))
    | int j => obtain ⟨t', rfl⟩ := ry; exact PySem.EqMixed.ne_str_int (fin_bl I q (by simp))
    | str j => obtain ⟨t', rfl⟩ := ry; exact ne_str (fin_bl I q (congrArg not dec_str))
    | _ => exact absurd (show false = true from hs) Bool.false_ne_true
  | byt i =>
    obtain ⟨t, rfl⟩ := rx
    cases y with
    | byt j => obtain ⟨t', rfl⟩ := ry; exact PySem.W.ne_bytes (fin_bl I q (congrArg not dec_byt))
    | _ => exact absurd (show false = true from hs) Bool.false_ne_true
  | _ => cases y <;> exact absurd (show false = true from hs) Bool.false_ne_true

theorem op_lt : OpR X (compareOp .Lt) (rI0 fun i j => .bl (decide (i < j))) := opB0 fun _ _ _ _ _ _ _ q => lt_int q
theorem op_le : OpR X (compareOp .LtE) (rI0 fun i j => .bl (decide (i ≤ j))) := opB0 fun _ _ _ _ _ _ _ q => le_int q
theorem op_gt : OpR X (compareOp .Gt) (rI0 fun i j => .bl (decide (j < i))) := opB0 fun _ _ _ _ _ _ _ q => gt_int q
theorem op_in_str : OpR X (compareOp .In) (fun x y H Q => ∃ i j, x = .str i ∧ y = .str j ∧ Q (.bl (!(Builtin.Str.occurrences j i 0 j.length 1).isEmpty)) H) := by
  intro pins s σ H x y v u Q I rx ry h
  obtain ⟨i, j, rfl, rfl, q⟩ := h
  obtain ⟨t, rfl⟩ := rx
  obtain ⟨t', rfl⟩ := ry
  exact in_str (fin_bl I q rfl)

theorem nomark (b : Expr) {op : CmpOp} (h : op ≠ .In := by decide) (h2 : op ≠ .NotIn := by decide) : behindInMarks op b = false := by
  have e1 : (op == CmpOp.In) = false := by cases op <;> first | rfl | exact absurd rfl h
  have e2 : (op == CmpOp.NotIn) = false := by cases op <;> first | rfl | exact absurd rfl h2
  cases b <;> simp [behindInMarks, e1, e2]
theorem pe_cmpR {op : CmpOp} {r : R2} (ho : OpR X (compareOp op) r) (ha : PE X a ta) (hb : PE X b tb) (hm : behindInMarks op b = false) : PE X (.Compare a [op] [b] pos) (tOp r ta tb) := by
  intro pins s σ H Q I h
  exact wpAny_Compare1 (binT ha hb I h fun v u s2 x y H2 I2 rx ry q => ho pins s2 σ H2 x y v u Q I2 rx ry q) hm
def tTest (t : TE) : TT := fun σ H Q => t σ H fun x H' => ∃ k, x = .bl k ∧ Q k H'
theorem pt_cmpR {op : CmpOp} {r : R2} (ho : OpR X (compareOp op) r) (ha : PE X a ta) (hb : PE X b tb) (hm : behindInMarks op b = false) : PT X (.Compare a [op] [b] pos) (tTest (tOp r ta tb)) := by
  intro pins s σ H Q I h
  refine wpAny_isTrue_Compare1 (thn (ha pins s σ H _ I h) fun v s1 ⟨x, H1, I1, r1, q1⟩ => thn (hb pins s1 σ H1 _ I1 q1) fun u s2 ⟨y, H2, I2, r2, q2⟩ =>
    thn (ho pins s2 σ H2 x y v u _ I2 r1 r2 q2) fun c s3 ⟨z, H3, I3, r3, k, e, q3⟩ => ?_) hm
  subst e
  cases r3
  exact wpAny_truthy_bool ⟨H3, I3, q3⟩
def tChain (r r' : R2) (ta tb tc : TE) : TE := fun σ H Q => ta σ H fun x H1 => tb σ H1 fun y H2 => r x y H2 fun z H3 => ∃ k, z = .bl k ∧
  (if k = true then tc σ H3 fun w' H4 => r' y w' H4 Q else Q (.bl false) H3)
theorem pe_chain {op op' : CmpOp} {r r' : R2} (ho : OpR X (compareOp op) r) (ho' : OpR X (compareOp op') r') (ha : PE X a ta) (hb : PE X b tb) (hc : PE X c tc)
    (hm : lastMarks [op, op'] [b, c] = false := by with_unfolding_all rfl) : PE X (.Compare a [op, op'] [b, c] pos) (tChain r r' ta tb tc) := by
  intro pins s σ H Q I h
  refine Compare_chain (thn (ha pins s σ H _ I h) fun v s1 ⟨x, H1, I1, r1, q1⟩ => chain_link (thn (hb pins s1 σ H1 _ I1 q1) fun u s2 ⟨y, H2, I2, r2, q2⟩ =>
    thn (ho pins s2 σ H2 x y v u _ I2 r1 r2 q2) fun d s3 ⟨z, H3, I3, r3, k, e, q3⟩ => ?_)) hm
  subst e
  cases r3
  refine wpAny_truthy_bool ?_
  cases k with
  | false => exact ite_ff ⟨.bl false, H3, I3, rfl, q3⟩
  | true => exact ite_tt (chain_last (thn (hc pins s3 σ H3 _ I3 q3) fun w' s4 ⟨z', H4, I4, r4, q4⟩ => ho' pins s4 σ H4 y z' u w' Q I4 r2 r4 q4))
theorem pt_chain {op op' : CmpOp} {r r' : R2} (ho : OpR X (compareOp op) r) (ho' : OpR X (compareOp op') r') (ha : PE X a ta) (hb : PE X b tb) (hc : PE X c tc)
    (hm : lastMarks [op, op'] [b, c] = false := by with_unfolding_all rfl) : PT X (.Compare a [op, op'] [b, c] pos) (tTest (tChain r r' ta tb tc)) := by
  intro pins s σ H Q I h
  refine isTrue_chain (thn (ha pins s σ H _ I h) fun v s1 ⟨x, H1, I1, r1, q1⟩ => test_link (thn (hb pins s1 σ H1 _ I1 q1) fun u s2 ⟨y, H2, I2, r2, q2⟩ =>
    thn (ho pins s2 σ H2 x y v u _ I2 r1 r2 q2) fun d s3 ⟨z, H3, I3, r3, k, e, q3⟩ => ?_)) hm
  subst e
  cases r3
  refine wpAny_truthy_bool ?_
  cases k with
  | false =>
    obtain ⟨k', e', q'⟩ := q3
    cases e'
    exact ite_ff ⟨H3, I3, q'⟩
  | true =>
    refine ite_tt (test_last (thn (hc pins s3 σ H3 _ I3 q3) fun w' s4 ⟨z', H4, I4, r4, q4⟩ => thn (ho' pins s4 σ H4 y z' u w' _ I4 r2 r4 q4) fun d' s5 ⟨z2, H5, I5, r5, k2, e2, q5⟩ => ?_))
    subst e2
    cases r5
    exact wpAny_truthy_bool ⟨H5, I5, q5⟩

theorem line63 : (sizeLine : Nat) < 2 ^ 63 := by rw [sizeLine_eq]; decide
theorem op_add_str : OpR X (binaryOp .Add) (fun x y H Q => ∃ i j, x = .str i ∧ y = .str j ∧ i.length + j.length ≤ sizeLine ∧ Q (.str (i ++ j)) H) := by
  intro pins s σ H x y v u Q I rx ry h
  obtain ⟨i, j, rfl, rfl, hz, q⟩ := h
  obtain ⟨t, rfl⟩ := rx
  obtain ⟨t', rfl⟩ := ry
  exact add_str (fun t' tk => ⟨.str (i ++ j), H, I.tok _, ⟨_, rfl⟩, q⟩) hz
theorem vals1 {x : V} {us : List Value} (r : Vals [x] us) : ∃ u, us = [u] ∧ RelV x u := by
  cases r with
  | cons r1 r2 => cases r2; exact ⟨_, rfl, r1⟩
theorem vals2 {x y : V} {us : List Value} (r : Vals [x, y] us) : ∃ u w', us = [u, w'] ∧ RelV x u ∧ RelV y w' := by
  cases r with
  | cons r1 r2 =>
    cases r2 with
    | cons r3 r4 => cases r4; exact ⟨_, _, rfl, r1, r3⟩
theorem call_max2 (hc : X.calm = true) : CallR X (.builtin "max") (fun xs H Q => ∃ i j, xs = [.int i, .int j] ∧ Q (.int (if j > i then j else i)) H) := by
  intro pins s σ H xs us Q I r h
  obtain ⟨i, j, rfl, q⟩ := h
  obtain ⟨u, w', rfl, ⟨t, rfl⟩, ⟨t', rfl⟩⟩ := vals2 r
  refine max_two_ints (I.ok.hd hc) fun h' tk k => ⟨_, H, I.kept k, ?_, q⟩
  by_cases hj : j > i
  · rw [if_pos hj, if_pos hj]; exact ⟨_, rfl⟩
  · rw [if_neg hj, if_neg hj]; exact ⟨_, rfl⟩
theorem call_min2 (hc : X.calm = true) : CallR X (.builtin "min") (fun xs H Q => ∃ i j, xs = [.int i, .int j] ∧ Q (.int (if j < i then j else i)) H) := by
  intro pins s σ H xs us Q I r h
  obtain ⟨i, j, rfl, q⟩ := h
  obtain ⟨u, w', rfl, ⟨t, rfl⟩, ⟨t', rfl⟩⟩ := vals2 r
  refine min_two_ints (I.ok.hd hc) fun h' tk k => ⟨_, H, I.kept k, ?_, q⟩
  by_cases hj : j < i
  · rw [if_pos hj, if_pos hj]; exact ⟨_, rfl⟩
  · rw [if_neg hj, if_neg hj]; exact ⟨_, rfl⟩
theorem call_int1 : CallR X (.type "int") (fun xs H Q => (∃ i, xs = [.int i] ∧ Q (.int i) H) ∨ ∃ k, xs = [.bl k] ∧ Q (.int (if k then 1 else 0)) H) := by
  intro pins s σ H xs us Q I r h
  rcases h with ⟨i, rfl, q⟩ | ⟨k, rfl, q⟩
  · obtain ⟨u, rfl, t, rfl⟩ := vals1 r
    exact call_int_int ⟨.int i, H, I, ⟨_, rfl⟩, q⟩
  · obtain ⟨u, rfl, r1⟩ := vals1 r
    cases r1
    exact call_int_bool ⟨.int (if k then 1 else 0), H, I.tok _, ⟨_, rfl⟩, q⟩
theorem call_ord : CallR X (.builtin "ord") (fun xs H Q => ∃ x, xs = [.str x] ∧ x.length = 1 ∧ Q (.int (x.cps.getD 0 0 : Nat)) H) := by
  intro pins s σ H xs us Q I r h
  obtain ⟨x, rfl, hz, q⟩ := h
  obtain ⟨u, rfl, t, rfl⟩ := vals1 r
  exact ord_of_one hz ⟨.int _, H, I.tok _, ⟨_, rfl⟩, q⟩
end
end L2

namespace L2
open PySem PySem.Spec PyProof.Rows

structure ObjM (h : Heap) (x dx C : Addr) (mA : Str → Option Value) : Prop where
  obj : h.get? x = some (PySem.W.instObj C dx)
  ns : h.Ns1 dx mA
  ne : dx ≠ x

theorem lookIn_ns {h : Heap} {dx : Addr} {mA : Str → Option Value} (n : h.Ns1 dx mA) : ∃ od, h.get? dx = some od ∧ ∀ name, PySem.W.lookIn name od = some (mA name) := by
  obtain ⟨o, es, ep, ho, hd, hk, _, hm⟩ := n
  refine ⟨o, ho, fun name => ?_⟩
  have e := hm name
  unfold nsFind findBy at e
  rw [← Array.find?_toList] at e
  unfold PySem.W.lookIn
  rw [hd]
  dsimp only
  split
  · rename_i y q
    rw [q] at e
    exact congrArg some e
  · rename_i q
    rw [q] at e
    have a : es.toList.any (·.refKey) = false := by
      rw [List.any_eq_false]
      intro y hy
      obtain ⟨z, t, hkey⟩ := hk y (Array.mem_toList_iff.mp hy)
      simp [DictEntry.refKey, hkey]
    have a' : ¬ es.toList.any (·.refKey) = true := by rw [a]; exact Bool.false_ne_true
    rw [if_neg a']
    exact congrArg some e

section
variable {prog : Program} {w : World} {A : Around} {E : Value → Shared → Prop} {s : Shared} {K : PySem.W.Frag} {x dx C f : Addr} {mA : Str → Option Value} {name : Str} {v : Value}

end

theorem RelO.some_of {v : V} {o : Option Value} (r : RelO (some v) o) : ∃ u, o = some u ∧ RelV v u := by
  cases o with
  | none => exact (show False from r).elim
  | some u => exact ⟨u, rfl, r⟩
theorem handed_of {v : V} {u : Value} (r : RelV v u) : PySem.W.handedIn u = true := by
  cases v with
  | non => cases (show u = Value.none from r); rfl
  | bl b => cases (show u = Value.bool b from r); rfl
  | int i => obtain ⟨t, e⟩ := (show ∃ t, u = Value.int i t from r); cases e; rfl
  | str x => obtain ⟨t, e⟩ := (show ∃ t, u = Value.str x t from r); cases e; rfl
  | byt b => obtain ⟨t, e⟩ := (show ∃ t, u = Value.bytes b t from r); cases e; rfl
  | flt b => obtain ⟨t, e⟩ := (show ∃ t, u = Value.float b t from r); cases e; rfl
  | ref a => cases (show u = Value.ref a from r); rfl
  | ty n => cases (show u = Value.type n from r); rfl


structure Cls (K : PySem.W.Frag) (C : Addr) : Prop where
  pg : PySem.W.plainGet K C Str.empty = true
  hd : PySem.W.hasDictIn K C = true
  po : PySem.W.plainOver K C = true
  sa : PySem.W.findIn K (.ref C) "__setattr__" = some (some (.builtin "object.__setattr__"))
def NoAttr (K : PySem.W.Frag) (C : Addr) (f : Str) : Prop := PySem.W.findIn K (.ref C) f = some none
structure Con (K : PySem.W.Frag) (C : Addr) (f : Str) (v : V) (u : Value) : Prop where
  at_ : PySem.W.findIn K (.ref C) f = some (some u)
  rel : RelV v u
  get : PySem.W.specialIn K u "__get__" = some none
  cp : PySem.W.copiedNames.contains f = false
structure Meth (K : PySem.W.Frag) (C : Addr) (m : Str) (f : Addr) : Prop where
  at_ : PySem.W.findIn K (.ref C) m = some (some (.ref f))
  fn : PySem.W.isFn K (.ref f) = true
  kp : PySem.W.keepIn K (.ref f) = true

section
variable {X : Cx} {pins : List (Addr × Obj)} {σ : St} {H : Hp} {s : Shared} {a C dx : Addr} {fs : List (Str × V)} {f : Str} {v : V} {A : Around} {E : Value → Shared → Prop}

theorem attr_of {prog : Program} {w : World} {env : Env} {e : Expr} {f : Str} {pos : Pos} {s : Shared} {Q : Value → Shared → Prop} (hb : attributeBase e f env (eval e env) = eval e env)
    (h : wpAny (model prog w) A (eval e env) (fun o s₁ => wpAny (model prog w) A (getAttr o f true) Q E s₁) E s) : wpAny (model prog w) A (eval (.Attribute e f pos) env) Q E s :=
  Attribute_any_ h (by rw [arm_eval_Attribute, hb])
end


section
variable {X : Cx} {pins : List (Addr × Obj)} {σ : St} {H : Hp} {s : Shared} {A : Around} {E : Value → Shared → Prop} {Q : Value → Shared → Prop} {c : Value} {b : Bool}
inductive TyOf (K : PySem.W.Frag) (H : Hp) : V → Value → Prop where
  | non : TyOf K H .non (.type "NoneType")
  | bl (x : Bool) : TyOf K H (.bl x) (.type "bool")
  | int (i : Int) : TyOf K H (.int i) (.type "int")
  | str (x : Str) : TyOf K H (.str x) (.type "str")
  | flt (x : UInt64) : TyOf K H (.flt x) (.type "float")
  | lst {a : Addr} {xs : List V} (e : H a = some (.lst xs)) : TyOf K H (.ref a) (.type "list")
  | frz {a : Addr} {o : Obj} {xs : List V} (e : H a = some (.frz o (.lst xs))) : TyOf K H (.ref a) (.type "list")
  | tup {a : Addr} {xs : List V} (e : H a = some (.tup xs)) : TyOf K H (.ref a) (.type "tuple")
  | dK {a : Addr} {kvs : List (Key × V)} (e : H a = some (.dK kvs)) : TyOf K H (.ref a) (.type "dict")
  | dT {a : Addr} {kvs : List (List Key × V)} (e : H a = some (.dT kvs)) : TyOf K H (.ref a) (.type "dict")
  | ins {a C dx : Addr} {fs : List (Str × V)} (e : H a = some (.ins C dx fs)) (cl : Cls K C) (ha : PySem.W.findIn K (.ref C) "__class__" = some (some (.builtin "object.__class__")))
      (hn : PySem.W.specialIn K (.builtin "object.__class__") "__get__" = some (some (.builtin "getset_descriptor.__get__"))) (htk : PySem.W.takesIn K (.builtin "object.__class__") = some true)
      (hm : PySem.W.mroIn K C (.type "object") = some true) : TyOf K H (.ref a) (.ref C)
end
end L2

namespace L2
open PySem PySem.Spec PyProof.Rows

structure Room (k : Nat) (A : Around) : Prop where
  hd : A.handled = none
  dp : A.depth + 3 * k + 5 < recursionLimit
  un : A.units + 16 * k + 200 < cLine
theorem Room.mono {j k : Nat} {A : Around} (r : Room k A) (h : j ≤ k) : Room j A := ⟨r.hd, by have := r.dp; omega, by have := r.un; omega⟩
theorem Room.deeper {k : Nat} {A : Around} (r : Room (k + 1) A) (env : Env) : Room k (A.deeper env) :=
  ⟨r.hd, by have := r.dp; show A.depth + 1 + 3 * k + 5 < _; omega, by have := r.un; show A.units + 3 + 16 * k + 200 < _; omega⟩
theorem make_depth {A : Around} {C : Addr} {us : List Value} {kw : List (Str × Value)} : (A.under (.builtin "type.__call__" ⟨.ref C :: us, kw⟩)).depth = A.depth + 1 := by
  first | rfl | simp [Around.under, Code.weight, Code.isCreation, Code.isGuard, Code.isCaller, Code.frames, Code.isFrame, guardIds]
theorem make_units {A : Around} {C : Addr} {us : List Value} {kw : List (Str × Value)} : (A.under (.builtin "type.__call__" ⟨.ref C :: us, kw⟩)).units = A.units + 1 := by
  first | rfl | simp [Around.under, Code.cUnits, Code.frames, Code.isFrame]
theorem Room.make {k : Nat} {A : Around} (r : Room (k + 1) A) (C : Addr) (us : List Value) (kw : List (Str × Value)) : Room k (A.under (.builtin "type.__call__" ⟨.ref C :: us, kw⟩)) :=
  ⟨r.hd, by have := r.dp; rw [make_depth]; omega, by have := r.un; rw [make_units]; omega⟩
theorem Room.depth {k : Nat} {A : Around} (r : Room k A) : A.depth < recursionLimit := by have := r.dp; omega
theorem Room.units {k : Nat} {A : Around} (r : Room k A) : A.units + 64 < cLine := by have := r.un; omega
def tNil : TA := fun _ H Q => Q [] H
def tCons (ta : TE) (tr : TA) : TA := fun σ H Q => ta σ H fun x H1 => tr σ H1 fun xs H2 => Q (x :: xs) H2
section
variable {X : Cx} {e : Expr} {es : List Expr} {te : TE} {t : TA} {pos : Pos}
theorem pa_nil : PA X [] tNil := fun _ _ _ _ H Q I h => Calls.spliced_nil ⟨[], H, I, .nil, h⟩
theorem pa_cons (ha : PE X e te) (hr : PA X es t) (hs : starEach (e :: es) X.env = (false, eval e X.env) :: starEach es X.env := by rfl) : PA X (e :: es) (tCons te t) := by
  intro pos pins s σ H Q I h
  rw [hs]
  show wpAny _ _ (spliced ((false, eval e X.env) :: backTo pos (starEach es X.env))) _ _ s
  refine Calls.spliced_cons (thn (ha pins s σ H _ I h) fun u s1 ⟨x, H1, I1, r1, q1⟩ => ?_)
  exact thn (hr pos pins s1 σ H1 _ I1 q1) fun us s2 ⟨xs, H2, I2, r2, q2⟩ => ⟨x :: xs, H2, I2, .cons r1 r2, q2⟩

def tTup (t : TA) : TE := fun σ H Q => t σ H fun xs H1 => xs.length ≤ sizeLine ∧ ∀ p, H1 p = none → Q (.ref p) (upd H1 p (.tup xs))
def tLst (t : TA) : TE := fun σ H Q => t σ H fun xs H1 => xs.length ≤ sizeLine ∧ ∀ p, H1 p = none → Q (.ref p) (upd H1 p (.lst xs))
theorem pe_tup {x1} (h : PA X es t) : PE X (.Tuple es x1 pos) (tTup t) := by
  intro pins s σ H Q I hq
  refine wpAny_Tuple_spliced (thn (h pos pins s σ H _ I hq) fun us s1 ⟨xs, H1, I1, r, z, q⟩ => ⟨by rw [← r.length]; exact z, ?_⟩)
  have hf : H1 s1.heap.objs.size = none := I1.hok.fresh (Nat.le_refl _)
  refine ⟨.ref s1.heap.objs.size, upd H1 s1.heap.objs.size (.tup xs), I1.laid (t' := s1.toks) (fun b u e => Heap.get?_push_of_some _ e) (Nat.le_refl _) ?_, rfl, q _ hf⟩
  exact ⟨z, us, r, ⟨_, Heap.get?_push_size _ rfl, rfl, _, rfl⟩⟩
theorem pe_lst (h : PA X es t) : PE X (.List es pos) (tLst t) := by
  intro pins s σ H Q I hq
  refine wpAny_List_spliced (thn (h pos pins s σ H _ I hq) fun us s1 ⟨xs, H1, I1, r, z, q⟩ => ⟨by rw [← r.length]; exact z, ?_⟩)
  have hf : H1 s1.heap.objs.size = none := I1.hok.fresh (Nat.le_refl _)
  refine ⟨.ref s1.heap.objs.size, upd H1 s1.heap.objs.size (.lst xs), I1.laid (t' := s1.toks) (fun b u e => Heap.get?_push_of_some _ e) (Nat.le_refl _) ?_, rfl, q _ hf⟩
  exact ⟨z, us, 0, r, Heap.get?_push_size _ rfl⟩
end

abbrev Sp := List V → Hp → VK → XK → Prop
abbrev CXT := List Env → Hp → Shared → XK → Value → Shared → Prop

structure Env0 (P : Program) (w : World) (K : PySem.W.Frag) (mg : Str → Option Value) (base : Heap) (A : Around) (outer : List Env) (s : Shared) (H : Hp) : Prop where
  frames : A.frames = some outer
  mod : Mod K mg base
  bs : ∀ b o, base.get? b = some o → s.heap.get? b = some o ∧ H b = none
  bsz : base.objs.size ≤ s.heap.objs.size
  funs : s.heap.FunFrames base outer
  frf : ∀ b ∈ frs outer, H b = none
  hok : HOk P w H s.heap
  bare : AllBare s.gens
def CE (outer : List Env) (P : Program) (w : World) (H : Hp) (s : Shared) (Q : VK) (u : Value) (s' : Shared) : Prop :=
  ∃ v H', s'.os = s.os ∧ AllBare s'.gens ∧ Un (frs outer) [] H H' s.heap s'.heap ∧ HOk P w H' s'.heap ∧ RelV v u ∧ Q v H'
def CR (CX : CXT) (outer : List Env) (P : Program) (w : World) (H : Hp) (s : Shared) (Q : VK) (E : XK) (r : Result) (s' : Shared) : Prop :=
  match r with
  | .ok (.ret u) => CE outer P w H s Q u s'
  | .ok _ => False
  | .error e => CX outer H s E e s'
structure FnOk (P : Program) (w : World) (K : PySem.W.Frag) (mg : Str → Option Value) (base : Heap) (CX : CXT) (k : Nat) (f : Addr) (fd : FuncData) (ps : List Str) (sp : Sp) : Prop where
  len : ∀ vs H Q E, sp vs H Q E → vs.length = ps.length
  run : ∀ (A : Around) (outer : List Env) (s : Shared) (H : Hp) (args : Args) (us : List Value) (vs : List V) (Q : VK) (E : XK), Room k A → Env0 P w K mg base A outer s H → BindsTo s fd args (ps.zip us) → Vals vs us → sp vs H Q E →
    codeAny (model P w) A (.call (.ref f) args) (CR CX outer P w H s Q E) s
theorem FnOk.mono {P : Program} {w : World} {K : PySem.W.Frag} {mg : Str → Option Value} {base : Heap} {CX : CXT} {j k : Nat} {f : Addr} {fd : FuncData} {ps : List Str} {sp : Sp} (F : FnOk P w K mg base CX j f fd ps sp) (h : j ≤ k) :
    FnOk P w K mg base CX k f fd ps sp := ⟨F.len, fun A outer s H args us vs Q E hr => F.run A outer s H args us vs Q E (hr.mono h)⟩
theorem Env0.make {P : Program} {w : World} {K : PySem.W.Frag} {mg : Str → Option Value} {base : Heap} {A : Around} {outer : List Env} {s : Shared} {H : Hp} (e : Env0 P w K mg base A outer s H) (C : Addr) (us : List Value) (kw : List (Str × Value)) :
    Env0 P w K mg base (A.under (.builtin "type.__call__" ⟨.ref C :: us, kw⟩)) outer s H := ⟨by first | exact e.frames | (simpa [Around.under, Code.envs, Code.isFrame, pushEnvs] using e.frames), e.mod, e.bs, e.bsz, e.funs, e.frf, e.hok, e.bare⟩
section
variable {X : Cx} {pins : List (Addr × Obj)} {σ : St} {H : Hp} {s s' : Shared}
theorem Inv.env0 (I : Inv X pins σ H s) : Env0 X.prog X.w X.K X.mg X.base X.A X.stack s H :=
  ⟨I.ok.frames, I.ok.mod, I.bs, Nat.le_trans I.ok.bsz I.sz, I.stack, I.stkFree, I.hok, I.bare⟩
theorem Inv.after {Q : VK} {u : Value} (I : Inv X pins σ H s) (h : CE X.stack X.prog X.w H s Q u s') : EP X pins σ Q u s' := by
  obtain ⟨v, H', os, bare, un, hok, r, q⟩ := h
  obtain ⟨hh, g, d, t, os'⟩ := s'
  obtain rfl : os' = s.os := os
  exact ⟨v, H', I.call (h' := hh) (g' := g) (d' := d) (t' := t) (ch := []) un hok bare (fun b z => absurd z (by simp)), r, q⟩
end

def tCall (sp : Sp) (dvs : List V) (E : XK) (t : TA) : TE := fun σ H Q => t σ H fun vs H1 => sp (vs ++ dvs) H1 Q E
def Binds (K : PySem.W.Frag) (fd : FuncData) (ps : List Str) (ds : List Value) : Prop :=
  ∀ (s : Shared) (us : List Value), K.In s.heap → (us ++ ds).length = ps.length → BindsTo s fd ⟨us, []⟩ (ps.zip (us ++ ds))
theorem Binds.all {K : PySem.W.Frag} {fd : FuncData} {ps : List Str} (h : ∀ us : List Value, us.length = ps.length → bindArgs fd ⟨us, []⟩ = pure (ps.zip us)) : Binds K fd ps [] := fun s us _ hl => by
  rw [List.append_nil] at hl ⊢
  exact .of_eq (h us hl)

def Passes (CX : CXT) (X : Cx) (E : XK) : Prop := ∀ (pins : List (Addr × Obj)) (σ : St) (H : Hp) (s : Shared) (e : Value) (s' : Shared), Inv X pins σ H s → CX X.stack H s E e s' → X.xe e s'

section
variable {X : Cx} {CX : CXT} {k : Nat} {f C : Addr} {fd : FuncData} {ps : List Str} {sp : Sp} {dvs : List V} {ds : List Value} {E : XK} {x m : Str} {p pos apos : Pos} {e o : Expr} {es : List Expr} {ta : TE} {t : TA}

theorem run_fn {pins : List (Addr × Obj)} {σ : St} {H : Hp} {s : Shared} {Q : VK} {us : List Value} {vs : List V} (F : FnOk X.prog X.w X.K X.mg X.base CX k f fd ps sp) (hr : Room k X.A) (hb : Binds X.K fd ps ds) (hd : Vals dvs ds) (hx : Passes CX X E)
    (I : Inv X pins σ H s) (r : Vals vs us) (h : sp (vs ++ dvs) H Q E) : wpAny (model X.prog X.w) X.A (call (.ref f) us) (EP X pins σ Q) X.xe s := by
  have r2 : Vals (vs ++ dvs) (us ++ ds) := r.append hd
  have hl : (us ++ ds).length = ps.length := by rw [← r2.length]; exact F.len _ _ _ _ h
  refine wpAny_call (codeAny_mono (F.run X.A X.stack s H ⟨us, []⟩ (us ++ ds) (vs ++ dvs) Q E hr I.env0 (hb s us I.kIn hl) r2 h) fun r s' hq => ?_)
  cases r with
  | error e => exact hx pins σ H s e s' I hq
  | ok fl =>
    cases fl with
    | ret u => exact I.after hq
    | next => exact False.elim hq
    | brk => exact False.elim hq
    | cont => exact False.elim hq

theorem pe_call (F : FnOk X.prog X.w X.K X.mg X.base CX k f fd ps sp) (hr : Room k X.A) (hg : Gl X x) (hm : X.mg x = some (.ref f)) (hk : PySem.W.keepIn X.K (.ref f) = true) (hb : Binds X.K fd ps ds) (hd : Vals dvs ds) (hx : Passes CX X E)
    (ha : PA X (e :: es) t) (hdb : (x == ("__debug__" : Str)) = false := by decide) (he : starEach (e :: es) X.env = (false, eval e X.env) :: starEach es X.env := by rfl) (hpl : (backTo pos (starEach es X.env)).any (·.1) = false := by rfl) :
    PE X (.Call (.Name x p) (e :: es) [] pos) (tCall sp dvs E t) := by
  intro pins s σ H Q I h
  refine wpAny_Call_Name_kw (ld_glob I hg hm ?_ hdb)
  refine PySem.W.callWith_K (h₀ := X.base) I.ok.mod.kin hk (thn (ha pos pins s σ H _ I h) fun us s1 ⟨vs, H1, I1, r, q⟩ => ⟨I1.kIn, ?_⟩) he hpl
  exact run_fn F hr hb hd hx I1 r q
structure Mk (K : PySem.W.Frag) (C f : Addr) : Prop where
  makes : PySem.W.makesIn K C = true
  init : PySem.W.findIn K (.ref C) "__init__" = some (some (.ref f))
  fn : PySem.W.isFn K (.ref f) = true
  kp : PySem.W.keepIn K (.ref C) = true

end

section
variable {X : Cx} {CX : CXT} {k : Nat} {f C : Addr} {fd : FuncData} {ps ks : List Str} {sp : Sp} {E : XK} {x m : Str} {p pos apos kpos : Pos} {e o : Expr} {es : List Expr} {kws : List Keyword} {te ta : TE} {t tk : TA} {nm : Option Str}
structure KBinds (K : PySem.W.Frag) (fd : FuncData) (ps ks : List Str) (g : List Value → List Value → List Value) (gV : List V → List V → List V) : Prop where
  to : ∀ (s : Shared) (us ws : List Value), K.In s.heap → (g us ws).length = ps.length → BindsTo s fd ⟨us, ks.zip ws⟩ (ps.zip (g us ws))
  rel : ∀ {vs : List V} {us : List Value} {zs : List V} {ws : List Value}, Vals vs us → Vals zs ws → Vals (gV vs zs) (g us ws)
variable {g : List Value → List Value → List Value} {gV : List V → List V → List V}
end

structure FnScope (N P : List Str) (sc : Scope) : Prop where
  kind : sc.kind = .function
  co : sc.isCoroutine = false
  gen : sc.isGenerator = false
  nd : N.Nodup
  pre : N.take P.length = P
  par : ∀ x ∈ P, sc.names.lookup x = some .local ∨ sc.names.lookup x = some .cell
  nofree : ∀ y ∈ sc.names, y.2 ≠ .free

theorem bindL_out {kindOf : Str → Option NameKind} {x : Str} : ∀ {binds : List (Str × Value)} {m : Str → Option Value}, (∀ v, (x, v) ∉ binds) → bindL kindOf binds m x = m x
  | [], _, _ => rfl
  | (n, v) :: r, m, h => by
    unfold bindL
    rw [bindL_out fun w hw => h w (List.mem_cons_of_mem _ hw)]
    split
    · have : x ≠ n := by rintro rfl; exact h v List.mem_cons_self
      simp [this]
    · rfl
theorem bindC_out {kindOf : Str → Option NameKind} {x : Str} : ∀ {binds : List (Str × Value)} {m : Str → Option Value}, (∀ v, (x, v) ∉ binds) → bindC kindOf binds m x = m x
  | [], _, _ => rfl
  | (n, v) :: r, m, h => by
    unfold bindC
    rw [bindC_out fun w hw => h w (List.mem_cons_of_mem _ hw)]
    split
    · rfl
    · have : x ≠ n := by rintro rfl; exact h v List.mem_cons_self
      simp [this]
theorem bindL_get {kindOf : Str → Option NameKind} {x : Str} {v : Value} : ∀ {P : List Str} {vs : List Value} {i : Nat} {m : Str → Option Value}, P.Nodup → P[i]? = some x → vs[i]? = some v → kindOf x = some .local →
    bindL kindOf (P.zip vs) m x = some v
  | [], _, _, _, _, h, _, _ => by simp at h
  | _ :: _, [], _, _, _, _, h, _ => by simp at h
  | p :: P, w :: vs, 0, m, nd, h1, h2, hk => by
    simp at h1 h2; subst h1; subst h2
    show bindL kindOf ((p, w) :: P.zip vs) m p = _
    unfold bindL
    rw [bindL_out fun v hv => (List.nodup_cons.mp nd).1 (List.of_mem_zip hv).1, if_pos hk]
    simp
  | p :: P, w :: vs, i + 1, m, nd, h1, h2, hk => by
    show bindL kindOf ((p, w) :: P.zip vs) m x = _
    unfold bindL
    exact bindL_get (i := i) (List.nodup_cons.mp nd).2 (by simpa using h1) (by simpa using h2) hk
theorem bindC_get {kindOf : Str → Option NameKind} {x : Str} {v : Value} : ∀ {P : List Str} {vs : List Value} {i : Nat} {m : Str → Option Value}, P.Nodup → P[i]? = some x → vs[i]? = some v → kindOf x ≠ some .local →
    bindC kindOf (P.zip vs) m x = some v
  | [], _, _, _, _, h, _, _ => by simp at h
  | _ :: _, [], _, _, _, _, h, _ => by simp at h
  | p :: P, w :: vs, 0, m, nd, h1, h2, hk => by
    simp at h1 h2; subst h1; subst h2
    show bindC kindOf ((p, w) :: P.zip vs) m p = _
    unfold bindC
    rw [bindC_out fun v hv => (List.nodup_cons.mp nd).1 (List.of_mem_zip hv).1, if_neg hk]
    simp
  | p :: P, w :: vs, i + 1, m, nd, h1, h2, hk => by
    show bindC kindOf ((p, w) :: P.zip vs) m x = _
    unfold bindC
    exact bindC_get (i := i) (List.nodup_cons.mp nd).2 (by simpa using h1) (by simpa using h2) hk

def start (N : List Str) (vs : List V) : St := vs.map some ++ List.replicate (N.length - vs.length) none

def cxOf (CX : CXT) (P : Program) (w : World) (K : PySem.W.Frag) (mg : Str → Option Value) (base : Heap) (N : List Str) (qual : Str) (scope : Scope) (f : Addr) (cd : Value) (A : Around) (outer : List Env) (s : Shared) (H : Hp) (E : XK) : Cx where
  prog := P
  w := w
  K := K
  mg := mg
  base := base
  A := A.deeper (envOfC qual scope s.heap.objs.size f cd)
  N := N
  s₀ := s
  H₀ := H
  env := envOfC qual scope s.heap.objs.size f cd
  outer := outer
  stack := envOfC qual scope s.heap.objs.size f cd :: outer
  ex := []
  calm := true
  fn := fun _ => true
  pn := []
  xe := fun e s' => wpAny (model P w) (A.deeper (envOfC qual scope s.heap.objs.size f cd)) (leaving (envOfC qual scope s.heap.objs.size f cd) e) (fun _ s'' => CX outer H s E e s'') (fun e' s'' => CX outer H s E e' s'') s'

theorem cell_has {sc : Scope} {n : Nat} {x : Str} (h : sc.names.lookup x = some .cell) : ∃ c, (cellsFrom n sc.names []).lookup x = some c := by
  have q := PySem.W.cellsFrom_some sc.names n [] (.inl h)
  exact Option.isSome_iff_exists.mp q

theorem inv_start {CX : CXT} {P : Program} {w : World} {K : PySem.W.Frag} {mg : Str → Option Value} {base : Heap} {N ps : List Str} {qual : Str} {scope : Scope} {f : Addr} {cd : Value} {A : Around} {outer : List Env} {s s1 : Shared} {H : Hp} {E : XK} {us : List Value} {vs : List V}
    (S : FnScope N ps scope) (hd : A.handled = none) (e0 : Env0 P w K mg base A outer s H) (hl : vs.length = ps.length) (r : Vals vs us)
    (x : InCallC s s.heap.objs.size (bindL (envOfC qual scope s.heap.objs.size f cd).kindOf (ps.zip us) fun _ => none) (cellsFrom (s.heap.objs.size + 1) scope.names []) (bindC (envOfC qual scope s.heap.objs.size f cd).kindOf (ps.zip us) fun _ => none) s1) :
    Inv (cxOf CX P w K mg base N qual scope f cd A outer s H E) [] (start N vs) H s1 := by
  have hpl : ps.length ≤ N.length := by have := congrArg List.length S.pre; rw [List.length_take] at this; omega
  obtain ⟨h1, tk, rfl, hk⟩ := x.done
  have noA : ∀ b : Addr, b ∉ (cxOf CX P w K mg base N qual scope f cd A outer s H E).ex := fun b z => absurd (show b ∈ ([] : List Addr) from z) (by simp)
  refine ⟨⟨e0.mod, S.kind, rfl, rfl, Nat.le_refl _, fun y z c h1 h2 => ?_, fun y hy => ?_, fun y c _ h => ?_, fun _ => hd, Around.frames_deeper e0.frames, .inr ⟨rfl, rfl⟩, fun b z => absurd z (noA b), e0.bs, e0.bsz, fun b _ _ => noA b, fun b z => absurd z (noA b), e0.funs, e0.frf⟩,
    rfl, e0.bare, Un.kept hk, ⟨_, x.toInCall.ns, fun i y v h1 h2 h3 => ?_⟩, fun y c h => ⟨_, x.cell y c h⟩, e0.hok.fresh (Nat.le_refl _), fun y c h => ?_, fun p hp => absurd (show p ∈ ([] : List (Addr × Obj)) from hp) (by simp), e0.hok.kept hk, ?_⟩
  · exact name_of_addr x.apart (PySem.mem_of_lookup h1) (PySem.mem_of_lookup h2)
  · have hy : scope.names.lookup y = some .cell ∨ scope.names.lookup y = some .free := hy
    rcases hy with hy | hy
    · exact cell_has hy
    · exact absurd rfl (S.nofree _ (PySem.mem_of_lookup hy))
  · exact Nat.le_of_lt (x.above y c (PySem.mem_of_lookup h))
  · have hi : i < vs.length := by
      unfold start at h2
      by_cases hi : i < vs.length
      · exact hi
      · rw [List.getElem?_append_right (by simpa using hi)] at h2
        rw [List.getElem?_replicate] at h2
        split at h2 <;> cases h2
    have ha : vs[i]? = some v := by
      unfold start at h2
      rw [List.getElem?_append_left (by simpa using hi), List.getElem?_map] at h2
      cases e : vs[i]? with
      | none => rw [e] at h2; cases h2
      | some a => rw [e] at h2; cases h2; rfl
    obtain ⟨u, hu, rv⟩ := r.get ha
    have hp : ps[i]? = some y := by
      rw [← S.pre, List.getElem?_take_of_lt (by omega)]; exact h1
    have ndP : ps.Nodup := by rw [← S.pre]; exact S.nd.sublist (List.take_sublist _ _)
    refine ⟨u, rv, ?_⟩
    rcases S.par y (List.mem_of_getElem? hp) with k | k
    · exact .inl ⟨k, bindL_get ndP hp hu k⟩
    · obtain ⟨c, e⟩ := cell_has (n := s.heap.objs.size + 1) k
      refine .inr ⟨.inl k, c, e, ?_⟩
      have q := x.cell y c e
      rw [bindC_get ndP hp hu (by show scope.names.lookup y ≠ _; rw [k]; decide)] at q
      exact q
  · exact e0.hok.fresh (Nat.le_of_lt (x.above y c (PySem.mem_of_lookup h)))
  · unfold start
    show _ = N.length
    rw [List.length_append, List.length_map, List.length_replicate]
    omega

theorem fn_of {CX : CXT} {P : Program} {w : World} {K : PySem.W.Frag} {mg : Str → Option Value} {base : Heap} {k : Nat} {f : Addr} {name qual : Str} {params : Arguments} {body : List Stmt} {scope : Scope} {dV kV doc pm cdv ct oc : Value} {an od : Option Addr}
    {osl : Array (Option Value)} {N ps : List Str} {sp : Sp} (lk : K.lookup f = some ⟨oc, od, .func (PySem.W.fnOf name qual params body scope dV kV doc pm an cdv ct), osl⟩) (hcd : PySem.W.codeIn K cdv qual = true) (S : FnScope N ps scope)
    (len : ∀ vs H Q E, sp vs H Q E → vs.length = ps.length)
    (hbody : ∀ (A : Around) (outer : List Env) (s : Shared) (H : Hp) (vs : List V) (Q : VK) (E : XK), Room k (A.deeper (envOfC qual scope s.heap.objs.size f cdv)) → sp vs H Q E →
      ∃ t, PSs (cxOf CX P w K mg base N qual scope f cdv A outer s H E) body t ∧ t { nx := fun _ H' => Q .non H', rt := Q } (start N vs) H) :
    FnOk P w K mg base CX (k + 1) f (PySem.W.fnOf name qual params body scope dV kV doc pm an cdv ct) ps sp := by
  refine ⟨len, fun A outer s H args us vs Q E hr e0 hb r hsp => ?_⟩
  have hl := len _ _ _ _ hsp
  have KX : K.In s.heap := e0.mod.kin.keeps fun b o e => (e0.bs b o e).1
  have lim : s.heap.NoLimit := e0.mod.nolimit.keeps fun b o e => (e0.bs b o e).1
  have hkind : ∀ y ∈ ps.zip us, scope.names.lookup y.1 = some .local ∨ (scope.names.lookup y.1 = some .cell ∧ ((cellsFrom (s.heap.objs.size + 1) scope.names []).lookup y.1).isSome = true) := fun ⟨n, v⟩ hy => by
    rcases S.par n (List.of_mem_zip hy).1 with q | q
    · exact .inl q
    · exact .inr ⟨q, PySem.W.cellsFrom_some _ _ _ (.inl q)⟩
  refine codeAny_call_function hr.depth (KX _ _ lk) rfl S.co S.gen rfl (PySem.W.codeRec_of KX hcd) (hb _ _ _ _ ?_)
  refine wpAny_newFunctionEnv_cells S.kind hkind fun env he s1 x => ?_
  subst he
  refine ⟨lim.keeps x.toInCall.keep, codeAny_func ?_⟩
  obtain ⟨t, ht, hq⟩ := hbody A outer s H vs Q E (hr.deeper _) hsp
  have I : Inv (cxOf CX P w K mg base N qual scope f cdv A outer s H E) [] (start N vs) H s1 := inv_start S hr.hd e0 hl r x
  refine wpAny_mono (ht [] s1 (start N vs) H _ I hq) (fun fl s' hs => ?_) fun e s' hs => hs
  have fin : ∀ {σ' : St} {H' : Hp} {v : V} {u : Value}, Inv (cxOf CX P w K mg base N qual scope f cdv A outer s H E) [] σ' H' s' → RelV v u → Q v H' → CE outer P w H s Q u s' :=
    fun {σ' H' v u} J rv q => ⟨v, H', J.os, J.bare, J.base, J.hok, rv, q⟩
  cases fl with
  | ret u =>
    obtain ⟨v, σ', H', J, rv, q⟩ := hs
    exact fin J rv q
  | next =>
    obtain ⟨σ', H', J, q⟩ := hs
    exact fin (v := V.non) (u := Value.none) J rfl q
  | brk =>
    obtain ⟨_, _, _, q⟩ := hs
    exact False.elim q
  | cont =>
    obtain ⟨_, _, _, q⟩ := hs
    exact False.elim q
end L2

namespace L2
open PySem PySem.Spec PyProof.Rows
section
variable {X : Cx} {x : Str} {p pos : Pos} {e : Expr} {es : List Expr} {t : TA} {id T : String} {r : List V → Hp → VK → Prop}

def tCB (r : List V → Hp → VK → Prop) (t : TA) : TE := fun σ H Q => t σ H fun vs H1 => r vs H1 Q
theorem pe_callB (hc : CallR X (.builtin id) r) (hg : Gl X x) (hm : X.mg x = none) (hv : bootBuiltins x = some (.builtin id)) (ha : PA X (e :: es) t) (hn : x ≠ "__name__" := by decide) (hdb : (x == ("__debug__" : Str)) = false := by decide)
    (he : starEach (e :: es) X.env = (false, eval e X.env) :: starEach es X.env := by rfl) (hpl : (backTo pos (starEach es X.env)).any (·.1) = false := by rfl) : PE X (.Call (.Name x p) (e :: es) [] pos) (tCB r t) := by
  intro pins s σ H Q I h
  refine wpAny_Call_Name_kw (ld_blt I hg hm hv ?_ hn hdb)
  exact PyProof.Rows.callWith_builtin1 (thn (ha pos pins s σ H _ I h) fun us s1 ⟨vs, H1, I1, r1, q1⟩ => hc pins s1 σ H1 vs us Q I1 r1 q1) he hpl
theorem pe_callTy (hc : CallR X (.type T) r) (hg : Gl X x) (hm : X.mg x = none) (hv : bootBuiltins x = some (.type T)) (ha : PA X (e :: es) t) (hn : x ≠ "__name__" := by decide) (hdb : (x == ("__debug__" : Str)) = false := by decide)
    (he : starEach (e :: es) X.env = (false, eval e X.env) :: starEach es X.env := by rfl) (hpl : (backTo pos (starEach es X.env)).any (·.1) = false := by rfl) : PE X (.Call (.Name x p) (e :: es) [] pos) (tCB r t) := by
  intro pins s σ H Q I h
  refine wpAny_Call_Name_kw (ld_blt I hg hm hv ?_ hn hdb)
  exact PyProof.Rows.callWith_type1 (thn (ha pos pins s σ H _ I h) fun us s1 ⟨vs, H1, I1, r1, q1⟩ => hc pins s1 σ H1 vs us Q I1 r1 q1) he hpl
end
end L2

namespace HT
open PySem PyProof.Rows

section
open PySem.SeqAt
open PySem.AutoSeq1 (wpAny_loadPart')
open PySem.MeetsSeq PySem.MeetsSeq2 PySem.MeetsSeq3

end

section
variable {prog : Program} {w : World} {A : Around} {E : Value → Shared → Prop} {s : Shared}

def sIx (n d : Nat) : Option Int → Nat
  | none => d
  | some v => if v < 0 then (v + (n : Int)).toNat else min v.toNat n
theorem sIx_le (n d : Nat) (hd : d ≤ n) (o : Option Int) : sIx n d o ≤ n := by
  cases o with
  | none => exact hd
  | some v =>
    show (if v < 0 then (v + (n : Int)).toNat else min v.toNat n) ≤ n
    by_cases hv : v < 0
    · rw [if_pos hv]; omega
    · rw [if_neg hv]; exact Nat.min_le_right _ _
end
end HT

namespace L2
open PySem PySem.Spec PyProof.Rows

abbrev TO := St → Hp → (Option Int → Hp → Prop) → Prop
def PO (X : Cx) (e : Option Expr) (t : TO) : Prop :=
  ∀ (pins : List (Addr × Obj)) (s : Shared) (σ : St) (H : Hp) (Q : Option Int → Hp → Prop), Inv X pins σ H s → t σ H Q →
    wpAny (model X.prog X.w) X.A (evalPart e X.env) (fun u s' => ∃ o H', Inv X pins σ H' s' ∧ IsPart u o ∧ Q o H') X.xe s
def tNoPart : TO := fun _ H Q => Q none H
def tPart (t : TE) : TO := fun σ H Q => t σ H fun x H1 => ∃ i, x = .int i ∧ Q (some i) H1

section
variable {X : Cx} {e : Expr} {te : TE} {lo hi : Option Expr} {tl th : TO} {pos p2 : Pos}

theorem po_none : PO X none tNoPart := by
  intro pins s σ H Q I h
  rw [evalPart_none]
  exact wpAny_pure ⟨none, H, I, .none, h⟩
theorem po_some (h : PE X e te) : PO X (some e) (tPart te) := by
  intro pins s σ H Q I hw
  rw [evalPart_some]
  refine thn (h pins s σ H _ I hw) fun u s1 ⟨x, H1, I1, r1, q1⟩ => ?_
  obtain ⟨i, rfl, q⟩ := q1
  obtain ⟨t, rfl⟩ := r1
  exact ⟨some i, H1, I1, .int i t, q⟩

def SlR (X : Cx) (r : V → Option Int → Option Int → Hp → VK → Prop) : Prop :=
  ∀ (pins : List (Addr × Obj)) (s : Shared) (σ : St) (H : Hp) (x : V) (v vl vu : Value) (lo hi : Option Int) (sl : Addr) (Q : VK), Inv X pins σ H s → RelV x v → s.heap.IsSliceOf sl vl vu .none → IsPart vl lo → IsPart vu hi → r x lo hi H Q →
    ∃ T id, typeLookup (.type T) "__getitem__" = pure (some (.builtin id)) ∧ s.TypeIs v T ∧ wpAny (model X.prog X.w) X.A (getItem v (.ref sl)) (EP X pins σ Q) X.xe s
def tSl (r : V → Option Int → Option Int → Hp → VK → Prop) (te : TE) (tl th : TO) : TE := fun σ H Q => te σ H fun x H1 => tl σ H1 fun l H2 => th σ H2 fun u H3 => r x l u H3 Q
theorem pe_slice {r : V → Option Int → Option Int → Hp → VK → Prop} (hr : SlR X r) (he : PE X e te) (hl : PO X lo tl) (hu : PO X hi th) : PE X (.Subscript e (.Slice lo hi none p2) pos) (tSl r te tl th) := by
  intro pins s σ H Q I h
  refine Subscript_ (thn (he pins s σ H _ I h) fun v s1 ⟨x, H1, I1, r1, q1⟩ => ?_)
  refine wpAny_Slice (thn (hl pins s1 σ H1 _ I1 q1) fun vl s2 ⟨l, H2, I2, pl, q2⟩ => thn (hu pins s2 σ H2 _ I2 q2) fun vu s3 ⟨u, H3, I3, pu, q3⟩ => ?_)
  rw [evalPart_none]
  refine wpAny_pure ?_
  have I4 : Inv X pins σ H3 { s3 with heap := s3.heap.push { cls := .type "slice", data := .fields #[vl, vu, .none] } } := I3.kept (t' := s3.toks) fun b ob q => Heap.get?_push_of_some _ q
  obtain ⟨T, id, hT, ht, hg⟩ := hr pins { s3 with heap := s3.heap.push { cls := .type "slice", data := .fields #[vl, vu, .none] } } σ H3 x v vl vu l u s3.heap.objs.size Q I4 r1 (Heap.IsSliceOf.new ..) pl pu q3
  show wpAny (model X.prog X.w) X.A (subscriptTail e (.Slice lo hi none p2) v (.ref s3.heap.objs.size)) (EP X pins σ Q) X.xe { s3 with heap := s3.heap.push { cls := .type "slice", data := .fields #[vl, vu, .none] } }
  exact tail_any (ops := [.ref s3.heap.objs.size, v]) ht hT hg (by with_unfolding_all rfl)

def cutV (xs : List V) (lo hi : Option Int) : List V := (xs.drop (HT.sIx xs.length 0 lo)).take (HT.sIx xs.length xs.length hi - HT.sIx xs.length 0 lo)
theorem cutV_length (xs : List V) (lo hi : Option Int) : (cutV xs lo hi).length ≤ xs.length := by
  unfold cutV
  rw [List.length_take, List.length_drop]
  omega
end
end L2

namespace L2
open PySem PySem.Spec PyProof.Rows

def ixN (n : Nat) (i : Int) : Option Nat := if 0 ≤ i then (if i < n then some i.toNat else none) else if -(n : Int) ≤ i then some (i + n).toNat else none
def atI {α : Type} (xs : List α) (i : Int) : Option α := (ixN xs.length i).bind fun j => xs[j]?
theorem ixN_seq {n : Nat} {i : Int} {j : Nat} (h : ixN n i = some j) : seqIndex? i n = some j ∧ j < n ∧ -(n : Int) ≤ i ∧ i < n := by
  unfold ixN at h
  by_cases h0 : 0 ≤ i
  · rw [if_pos h0] at h
    by_cases h1 : i < n
    · rw [if_pos h1] at h
      have e : i.toNat = j := Option.some.inj h
      exact ⟨by rw [seqIndex_of h0 h1, e], by omega, by omega, h1⟩
    · rw [if_neg h1] at h; cases h
  · rw [if_neg h0] at h
    by_cases h1 : -(n : Int) ≤ i
    · rw [if_pos h1] at h
      have e : (i + n).toNat = j := Option.some.inj h
      exact ⟨by rw [seqIndex_neg (by omega) h1, e], by omega, h1, by omega⟩
    · rw [if_neg h1] at h; cases h
theorem atI_get {α : Type} {xs : List α} {i : Int} {v : α} (h : atI xs i = some v) : ∃ j, seqIndex? i xs.length = some j ∧ xs[j]? = some v ∧ j < xs.length ∧ -(xs.length : Int) ≤ i ∧ i < xs.length := by
  unfold atI at h
  cases e : ixN xs.length i with
  | none => rw [e] at h; cases h
  | some j =>
    rw [e] at h
    obtain ⟨h1, h2, h3, h4⟩ := ixN_seq e
    exact ⟨j, h1, h, h2, h3, h4⟩
theorem atI_nat {α : Type} {xs : List α} {j : Nat} {v : α} (h : xs[j]? = some v) : atI xs (j : Int) = some v := by
  have hj : j < xs.length := (List.getElem?_eq_some_iff.mp h).1
  have e : ixN xs.length (j : Int) = some j := by
    unfold ixN
    rw [if_pos (by omega), if_pos (by omega)]; simp
  unfold atI; rw [e]; exact h
theorem atI_last {α : Type} (xs : List α) (v : α) : atI (xs ++ [v]) (-1) = some v := by
  have hl : (xs ++ [v]).length = xs.length + 1 := by simp
  have e : ixN (xs ++ [v]).length (-1) = some xs.length := by
    unfold ixN
    rw [hl, if_neg (by decide), if_pos (by omega)]
    congr 1
    omega
  unfold atI
  rw [e]
  show (xs ++ [v])[xs.length]? = some v
  simp

def PlainIx (b : Expr) : Prop := ∀ o i, subscripted b false o i = operate [o, i] (getItem o i)
def IxR (X : Cx) (r : R2) : Prop :=
  ∀ (value slice : Expr) (pins : List (Addr × Obj)) (s : Shared) (σ : St) (H : Hp) (x y : V) (v u : Value) (Q : VK), Inv X pins σ H s → RelV x v → RelV y u → r x y H Q →
    subscripted slice false v u = operate [v, u] (getItem v u) → wpAny (model X.prog X.w) X.A (subscriptTail value slice v u) (EP X pins σ Q) X.xe s
def MtR (X : Cx) (id : String) (r : V → List V → Hp → VK → Prop) : Prop :=
  ∀ (pins : List (Addr × Obj)) (s : Shared) (σ : St) (H : Hp) (x : V) (xs : List V) (v : Value) (us : List Value) (Q : VK), Inv X pins σ H s → RelV x v → Vals xs us → r x xs H Q →
    wpAny (model X.prog X.w) X.A (call (.builtin id) (v :: us)) (EP X pins σ Q) X.xe s
section
variable {X : Cx} {a b : Expr} {ta tb : TE} {pos : Pos}
theorem pe_ix {r : R2} (hr : IxR X r) (ha : PE X a ta) (hb : PE X b tb) (hs : PlainIx b) : PE X (.Subscript a b pos) (tOp r ta tb) := by
  intro pins s σ H Q I h
  exact Subscript_ (binT ha hb I h fun v u s2 x y H2 I2 rx ry q => hr a b pins s2 σ H2 x y v u Q I2 rx ry q (hs _ _))

def rIxL (K : PySem.W.Frag) : R2 := fun x y H Q => ∃ p xs i v, x = .ref p ∧ y = .int i ∧ SqL K H p xs ∧ atI xs i = some v ∧ Q v H
def rIxS : R2 := fun x y H Q => ∃ z i c, x = .str z ∧ y = .int i ∧ z.length ≤ sizeLine ∧ atI z.cps.toList i = some c ∧ Q (.str ⟨#[c]⟩) H
theorem ix_list : IxR X (rIxL X.K) := by
  intro value slice pins s σ H x y v u Q I rx ry h hs
  obtain ⟨p, xs, i, z, rfl, rfl, hq, he, q⟩ := h
  cases rx
  obtain ⟨t, rfl⟩ := ry
  obtain ⟨its, r, pl, hz⟩ := I.list hq
  obtain ⟨j, h1, h2, h3, h4, h5⟩ := atI_get he
  obtain ⟨w, ew, rw'⟩ := r.get h2
  have hl := r.length
  have hn := line63
  have fin : EP X pins σ Q w s := ⟨z, H, I, rw', q⟩
  by_cases h0 : 0 ≤ i
  · have hj : i.toNat = j := by
      rw [seqIndex_of h0 h5] at h1
      exact Option.some.inj h1
    exact item_listR pl.isList h0 (by omega) (by rw [hj]; simpa using ew) fin hs
  · have hj : (i + (its.toArray.size : Int)).toNat = j := by
      rw [seqIndex_neg (by omega) h4] at h1
      rw [List.size_toArray, ← hl]
      exact Option.some.inj h1
    exact subscriptTail_builtinR (x := w) pl.isList.typeIs slot_list_getitem.lookup
      (wpAny_getItem_list_neg (Q := fun r s' => r = w ∧ EP X pins σ Q r s') pl.isList (by omega) (by rw [List.size_toArray] <;> omega) (by omega) (by rw [hj]; simpa using ew) ⟨rfl, fin⟩) hs
theorem ix_str : IxR X rIxS := by
  intro value slice pins s σ H x y v u Q I rx ry h hs
  obtain ⟨z, i, c, rfl, rfl, hz, he, q⟩ := h
  obtain ⟨t, rfl⟩ := rx
  obtain ⟨t', rfl⟩ := ry
  obtain ⟨j, h1, h2, h3, h4, h5⟩ := atI_get he
  have hl : z.cps.toList.length = z.length := by simp [Str.length]
  rw [hl] at h1 h4 h5
  have hn := line63
  exact tail_any (typeIs_str s z t) slot_str_getitem.lookup (getItem_str (c := c) (by
    have e1 : decide (i < -(2 ^ 63 : Int)) = false := decide_eq_false (by omega)
    have e2 : decide (i ≥ 2 ^ 63) = false := decide_eq_false (by omega)
    rw [e1, e2, Bool.or_false]) (by rw [h1]; simpa using h2) ⟨.str ⟨#[c]⟩, H, I.tok _, ⟨_, rfl⟩, q⟩) hs
theorem slice_bounds (lo hi : Option Int) (n : Nat) : (sliceBounds lo hi none n).1 = ((HT.sIx n 0 lo : Nat) : Int) ∧ (sliceBounds lo hi none n).2.1 = ((HT.sIx n n hi : Nat) : Int) ∧ (sliceBounds lo hi none n).2.2 = 1 := by
  refine ⟨?_, ?_, rfl⟩
  · cases lo with
    | none => simp [sliceBounds, HT.sIx]
    | some i =>
      simp only [sliceBounds, HT.sIx, Option.getD_none, show (1 : Int) > 0 by decide, if_true]
      by_cases h : i < 0
      · simp only [h, if_true] <;> omega
      · simp only [h, if_false] <;> omega
  · cases hi with
    | none => simp [sliceBounds, HT.sIx]
    | some i =>
      simp only [sliceBounds, HT.sIx, Option.getD_none, show (1 : Int) > 0 by decide, if_true]
      by_cases h : i < 0
      · simp only [h, if_true] <;> omega
      · simp only [h, if_false] <;> omega
theorem slicePick_cut (its : List Value) (lo hi : Option Int) : slicePick its.toArray lo hi none = ((its.drop (HT.sIx its.length 0 lo)).take (HT.sIx its.length its.length hi - HT.sIx its.length 0 lo)).toArray := by
  obtain ⟨h1, h2, h3⟩ := slice_bounds lo hi its.toArray.size
  unfold slicePick
  rw [h1, h2, h3]
  simp only [sliceRange_one, pick_run, List.size_toArray] <;> rfl
def rSlL (K : PySem.W.Frag) : V → Option Int → Option Int → Hp → VK → Prop := fun x lo hi H Q => ∃ a xs, x = .ref a ∧ SqL K H a xs ∧ ∀ p, H p = none → Q (.ref p) (upd H p (.lst (cutV xs lo hi)))
theorem sl_list : SlR X (rSlL X.K) := by
  intro pins s σ H x v vl vu lo hi sl Q I rx hs pl pu h
  obtain ⟨a, xs, rfl, hx, q⟩ := h
  cases rx
  obtain ⟨its, r, ht, hz⟩ := I.list hx
  have hlen := r.length
  refine ⟨"list", _, slot_list_getitem.lookup, ht.isList.typeIs, ?_⟩
  refine wpAny_getItem_list_slice ht.isList hs pl pu .none (by simp) ?_ (by rw [List.size_toArray] <;> omega)
  rw [slicePick_cut, ← hlen]
  refine ⟨.ref s.heap.objs.size, _, I.laid (t' := s.toks) (o := .lst (cutV xs lo hi)) (fun b ob q => Heap.get?_push_of_some _ q) (Nat.le_refl _) ?_, rfl, q _ (I.hok.fresh (Nat.le_refl _))⟩
  exact ⟨Nat.le_trans (cutV_length xs lo hi) hz, _, 0, (r.drop (HT.sIx xs.length 0 lo)).take (HT.sIx xs.length xs.length hi - HT.sIx xs.length 0 lo), Heap.get?_push_size _ rfl⟩

theorem call_len_seq : CallR X (.builtin "len") (fun xs H Q => ∃ p ys, xs = [.ref p] ∧ (SqL X.K H p ys ∨ SqT X.K H p ys) ∧ Q (.int ys.length) H) := by
  intro pins s σ H xs us Q I r h
  obtain ⟨p, ys, rfl, hq, q⟩ := h
  obtain ⟨u, rfl, rx⟩ := vals1 r
  cases rx
  have hn := line63
  rcases hq with hq | hq
  · obtain ⟨its, r', pl, hz⟩ := I.list hq
    have hlen := r'.length
    exact Calls.call_len_list pl.isList (by simp only [List.size_toArray] <;> omega) ⟨.int ys.length, H, I.tok _, ⟨s.toks + 1, by rw [List.size_toArray, hlen]⟩, q⟩
  · obtain ⟨its, r', pl, hz⟩ := I.tuple hq
    have hlen := r'.length
    exact len_tuple pl (by simp only [List.size_toArray] <;> omega) ⟨.int ys.length, H, I.tok _, ⟨s.toks + 1, by rw [List.size_toArray, hlen]⟩, q⟩
theorem call_len_str : CallR X (.builtin "len") (fun xs H Q => ∃ z, xs = [.str z] ∧ z.length ≤ sizeLine ∧ Q (.int z.length) H) := by
  intro pins s σ H xs us Q I r h
  obtain ⟨z, rfl, hz, q⟩ := h
  obtain ⟨u, rfl, t, rfl⟩ := vals1 r
  have hn := line63
  exact len_str (by omega) ⟨.int z.length, H, I.tok _, ⟨_, rfl⟩, q⟩
theorem call_tuple_of : CallR X (.type "tuple") (fun xs H Q => ∃ p ys, xs = [.ref p] ∧ ((SqL X.K H p ys ∧ ∀ l, H l = none → Q (.ref l) (upd H l (.tup ys))) ∨ (SqT X.K H p ys ∧ Q (.ref p) H))) := by
  intro pins s σ H xs us Q I r h
  obtain ⟨p, ys, rfl, h⟩ := h
  obtain ⟨u, rfl, rx⟩ := vals1 r
  cases rx
  rcases h with ⟨hq, q⟩ | ⟨hq, q⟩
  · obtain ⟨its, r', pl, hz⟩ := I.list hq
    have hlen := r'.length
    refine call_tuple_list pl.isList (fun h' kp => ?_) (by simp only [List.size_toArray] <;> omega)
    have I1 : Inv X pins σ H { s with heap := h' } := I.kept (t' := s.toks) kp
    have I2 : Inv X pins σ (upd H h'.objs.size (.tup ys)) { s with heap := h'.push { cls := .type "tuple", data := .seq its.toArray } } :=
      I1.laid (t' := s.toks) (fun b o e => Heap.get?_push_of_some _ e) (Nat.le_refl _) (show ObjOk X.prog X.w _ _ _ (.tup ys) from ⟨hz, its, r', IsTup.new _ _⟩)
    exact ⟨.ref h'.objs.size, _, I2, rfl, q _ (I1.hok.fresh (Nat.le_refl _))⟩
  · obtain ⟨its, r', pl, hz⟩ := I.tuple hq
    exact call_tuple_same pl ⟨.ref p, H, I, rfl, q⟩

def tyV (K : PySem.W.Frag) (T : String) (x : V) (H : Hp) : Prop := match x with
  | .str _ => T = "str"
  | .int _ => T = "int"
  | .ref p => (T = "list" ∧ ∃ xs, SqL K H p xs) ∨ (T = "tuple" ∧ ∃ o, K.lookup p = some o ∧ o.cls = .type "tuple" ∧ o.dict = none) ∨
      (T = "dict" ∧ ((∃ kvs, H p = some (.dK kvs)) ∨ ∃ kvs, H p = some (.dT kvs))) ∨ (T = "set" ∧ ∃ S n, H p = some (.set S n))
  | _ => False
theorem tyV_is {pins : List (Addr × Obj)} {σ : St} {H : Hp} {s : Shared} {T : String} {x : V} {v : Value} (I : Inv X pins σ H s) (r : RelV x v) (ty : tyV X.K T x H) :
    s.TypeIs v T ∧ ∀ a, v = .ref a → ∃ ob, s.heap.get? a = some ob ∧ ob.dict = none := by
  cases x with
  | str z =>
    obtain ⟨t, rfl⟩ := r
    cases (show T = "str" from ty)
    exact ⟨typeIs_str s z t, fun _ e => nomatch e⟩
  | int i =>
    obtain ⟨t, rfl⟩ := r
    cases (show T = "int" from ty)
    exact ⟨typeIs_int s i t, fun _ e => nomatch e⟩
  | ref p =>
    cases r
    rcases ty with ⟨rfl, xs, hq⟩ | ⟨rfl, o, hk, hc, hd⟩ | ⟨rfl, hk⟩ | ⟨rfl, S, n, hk⟩
    · obtain ⟨its, _, pl, _⟩ := I.list hq
      refine ⟨pl.isList.typeIs, fun a e => ?_⟩
      cases e
      obtain ⟨o, n, e, c, hd, _⟩ := pl
      exact ⟨o, e, hd⟩
    · refine ⟨⟨o, I.kIn p o hk, hc⟩, fun a e => ?_⟩
      cases e
      exact ⟨o, I.kIn _ o hk, hd⟩
    · have z : ∃ o, s.heap.get? p = some o ∧ o.ExactDict := by
        rcases hk with ⟨kvs, hk⟩ | ⟨kvs, hk⟩
        · obtain ⟨_, _, _, _, o, _, _, e, ex, _⟩ := I.hok p _ hk
          exact ⟨o, e, ex⟩
        · obtain ⟨_, _, _, _, o, _, _, e, ex, _⟩ := I.hok p _ hk
          exact ⟨o, e, ex⟩
      obtain ⟨o, e, ex⟩ := z
      refine ⟨⟨o, e, ex.1⟩, fun a e2 => ?_⟩
      cases e2
      exact ⟨o, e, ex.2.1⟩
    · obtain ⟨o, _, _, _, e, ex, _⟩ := I.hok p _ hk
      refine ⟨⟨o, e, ex.1⟩, fun a e2 => ?_⟩
      cases e2
      exact ⟨o, e, ex.2.1⟩
  | _ => exact False.elim ty
def tBM0 (K : PySem.W.Frag) (T : String) (r : V → List V → Hp → VK → Prop) (to : TE) : TE := fun σ H Q => to σ H fun x H1 => tyV K T x H1 ∧ r x [] H1 Q
def tBM (K : PySem.W.Frag) (T : String) (r : V → List V → Hp → VK → Prop) (to : TE) (t : TA) : TE := fun σ H Q => to σ H fun x H1 => tyV K T x H1 ∧ t σ H1 fun xs H2 => r x xs H2 Q
variable {o e : Expr} {es : List Expr} {to : TE} {t : TA} {name : Str} {apos cpos : Pos} {T id : String} {r : V → List V → Hp → VK → Prop}
theorem pe_bm0 (pa : PlainAttrs T) (slot : Slot T name id) (hty : typeOf (.builtin id) = pure (.type "method_descriptor")) (hm : MtR X id r) (ho : PE X o to)
    (hbase : attributeBase o name X.env (eval o X.env) = eval o X.env := by rfl) (hline : (apos.endLine == cpos.line) = true := by rfl) : PE X (.Call (.Attribute o name apos) [] [] cpos) (tBM0 X.K T r to) := by
  intro pins s σ H Q I h
  refine wpAny_Call_method0_late hbase hline (thn (ho pins s σ H _ I h) fun v s1 ⟨x, H1, I1, r1, ty, q1⟩ => ?_)
  obtain ⟨h1, h2⟩ := tyV_is I1 r1 ty
  exact ⟨T, id, pa, slot, hty, h1, h2, Calls.callWith_builtin rfl (PySem.evalArgs_none (hm pins s1 σ H1 x [] v [] Q I1 r1 .nil q1))⟩
theorem pe_bm (pa : PlainAttrs T) (slot : Slot T name id) (hty : typeOf (.builtin id) = pure (.type "method_descriptor")) (hm : MtR X id r) (ho : PE X o to) (ha : PA X (e :: es) t)
    (hbase : attributeBase o name X.env (eval o X.env) = eval o X.env := by rfl)
    (hfew : ((backTo cpos (starEach (e :: es) X.env)).all (fun x => !x.1) && (backToKw cpos (keywordEach [] X.env)).all (fun x => x.1.isSome)
      && decide ((e :: es).length + ([] : List Keyword).length + (if ([] : List Keyword).isEmpty then 0 else 1) < 30)) = true := by rfl)
    (hline : (apos.endLine == cpos.line) = true := by rfl) (hs : starEach (e :: es) X.env = (false, eval e X.env) :: starEach es X.env := by rfl) (hplain : (backTo cpos (starEach es X.env)).any (·.1) = false := by rfl) :
    PE X (.Call (.Attribute o name apos) (e :: es) [] cpos) (tBM X.K T r to t) := by
  intro pins s σ H Q I h
  refine wpAny_Call_method_late hbase hfew hline rfl (thn (ho pins s σ H _ I h) fun v s1 ⟨x, H1, I1, r1, ty, q1⟩ => ?_)
  obtain ⟨h1, h2⟩ := tyV_is I1 r1 ty
  refine ⟨T, id, pa, slot, hty, h1, h2, ?_⟩
  have hA := ha cpos pins s1 σ H1 _ I1 q1
  rw [hs] at hA ⊢
  refine Calls.callWith_builtin (by show (false || (backTo cpos (starEach es X.env)).any (·.1)) = false; rw [hplain] <;> rfl) (Calls.evalArgs_plain ?_)
  exact thn hA fun us s2 ⟨vs, H2, I2, r2, q2⟩ => hm pins s2 σ H2 x vs v us Q I2 r1 r2 q2
end
end L2

namespace L2
open PySem PySem.Spec PyProof.Rows

def MtM (X : Cx) (id : String) (r : V → List V → Hp → VK → Prop) : Prop :=
  ∀ (pins : List (Addr × Obj)) (s : Shared) (σ : St) (H : Hp) (x : V) (xs : List V) (v : Value) (us : List Value) (Q : VK), Inv X pins σ H s → RelV x v → Vals xs us → r x xs H Q →
    wpAny (model X.prog X.w) X.A (call (.builtin id) (v :: us)) (EP X pins σ Q) X.xe s

theorem Vals.one : ∀ {x : V} {us : List Value}, Vals [x] us → ∃ u, us = [u] ∧ RelV x u
  | _, _, .cons r .nil => ⟨_, rfl, r⟩
section
variable {X : Cx} {pins : List (Addr × Obj)} {σ : St} {H : Hp} {s : Shared} {l b : Addr} {xs ys zs : List V}

theorem Inv.lset {its its' : List Value} {n : Nat} {f : Array Value → Array Value} {t' : Nat} (I : Inv X pins σ H s) (hH : H l = some (.lst xs))
    (e : s.heap.get? l = some { cls := .type "list", data := .seq its.toArray n }) (hf : f its.toArray = its'.toArray) (hv : Vals ys its') (hz : ys.length ≤ sizeLine) :
    Inv X pins σ (upd H l (.lst ys)) { s with heap := s.heap.update l (Obj.mapSeq f), toks := t' } := by
  have q := PySem.IsL.update e f
  rw [hf] at q
  refine I.write (x := l) (e := l) (by rw [hH]; exact trivial) (.inl rfl) (fun b' u hb hu => (Heap.get?_update_other s.heap (Obj.mapSeq f) (Ne.symm hb)).trans hu) ⟨_, q⟩ ?_
  exact ⟨hz, its', _, hv, q⟩
theorem Inv.lnew {its : List Value} {t' : Nat} (I : Inv X pins σ H s) (hv : Vals ys its) (hz : ys.length ≤ sizeLine) :
    Inv X pins σ (upd H s.heap.objs.size (.lst ys)) { s with heap := s.heap.push { cls := .type "list", data := .seq its.toArray }, toks := t' } :=
  I.laid (fun _ _ q => Heap.get?_push_of_some _ q) (Nat.le_refl _) ⟨hz, its, 0, hv, Heap.get?_push_size _ rfl⟩
theorem Inv.fresh (I : Inv X pins σ H s) : H s.heap.objs.size = none := I.hok.fresh (Nat.le_refl _)
theorem Inv.lstM (I : Inv X pins σ H s) (hH : H l = some (.lst xs)) : xs.length ≤ sizeLine ∧ ∃ (its : List Value) (n : Nat), Vals xs its ∧ xs.length = its.length ∧ s.heap.get? l = some { cls := .type "list", data := .seq its.toArray n } := by
  obtain ⟨z, its, n, r, e⟩ := I.hok l _ hH
  exact ⟨z, its, n, r, r.length, e⟩

end

section
variable {X : Cx}

def rAppend : V → List V → Hp → VK → Prop := fun x vs H Q => ∃ l xs y, x = .ref l ∧ vs = [y] ∧ H l = some (.lst xs) ∧ xs.length < sizeLine ∧ Q .non (upd H l (.lst (xs ++ [y])))
theorem mt_append : MtM X "list.append" rAppend := by
  intro pins s σ H x vs v us Q I rx rv h
  obtain ⟨l, xs, y, rfl, rfl, hH, hz, q⟩ := h
  cases rx
  obtain ⟨u, rfl, ru⟩ := rv.one
  obtain ⟨z, its, n, r, hl, e⟩ := I.lstM hH
  refine call_meets F.slot_list_append ⟨_, e, rfl⟩ F.entry_list_append (F.args_list_append_2 _ _) (PySem.list_append l its.toArray n u (by rw [List.size_toArray]; omega)) ⟨e, ?_⟩
  refine ⟨.non, _, I.lset (its' := its ++ [u]) hH e (by simp) (r.append (.cons ru .nil)) ?_, rfl, q⟩
  rw [List.length_append, List.length_singleton]
  omega

end


end L2

namespace Att
open PySem PySem.W PySem.Calls PyProof.Rows

theorem ints_of_wellAll {P : Params} {h : Heap} : ∀ (ns : List Int) (vs : List Value), WellAll P h vs (ns.map WData.int) → IntsAre vs ns := by
  intro ns
  induction ns with
  | nil =>
    intro vs w
    rw [List.map_nil] at w
    cases w
    exact .nil
  | cons n ns ih =>
    intro vs w
    rw [List.map_cons] at w
    cases w with
    | cons a b =>
      cases a
      exact .cons _ _ (ih _ b)

theorem script_of {l : OpenLaw} {n : Nat} (hn : l.most = some n) {P : Params} {h : Heap} {args : List WData} {vals : List Value}
    (hpre : l.row.toRowW.claim.pre args = true) (hwl : WellAll P h vals args) :
    ∃ a vs ns, vals = [Value.ref a] ∧ args = [WData.list (ns.map WData.int)] ∧ h.get? a = some { cls := .type "list", data := .seq vs.toArray } ∧ IntsAre vs ns ∧ ns.length ≤ n := by
  have hsh : WShape.hasAll [] args [.list .int] = true := (pre_splitW hpre).1
  have hc : l.pre.holds [] { args := args } = true := (pre_splitW hpre).2
  obtain ⟨d, r, rfl, h1, h2⟩ := hasAllW_cons hsh
  obtain rfl := hasAllW_nil h2
  obtain ⟨xs, rfl, h3⟩ := hasW_list h1
  obtain ⟨ns, rfl⟩ := items_int h3
  have hlen : ns.length ≤ n := by
    unfold OpenLaw.pre at hc
    have h4 : (WTm.not (.lt (.lit (.int (n : Int))) (.len (.arg 0)))).holds [] { args := [.list (ns.map .int)] } = true := by
      have h4 := (holds_andW hc).1
      rw [hn] at h4
      exact h4
    have h5 := condW_of h4 (w_not (w_lt w_lit (w_len_list (w_arg rfl))))
    rw [List.length_map] at h5
    refine Nat.le_of_not_lt fun q => ?_
    have q' : (n : Int) < ((ns.length : Nat) : Int) := by omega
    first
      | (rw [decide_eq_true q'] at h5; exact absurd h5 (by decide))
      | (simp at h5; omega)
  cases hwl with
  | cons w1 w2 =>
    cases w2
    cases w1 with
    | list ho hall => exact ⟨_, _, ns, rfl, rfl, ho, ints_of_wellAll ns _ hall, hlen⟩

theorem post_true (l : OpenLaw) (args : List WData) : l.row.toRowW.claim.post args (.bool true) args = true :=
  postW_of (r := l.row.toRowW) (X := (true == true))
    (show WShape.has [] (.bool true) .bool = true by first | rfl | decide | simp [WShape.has, WShape.arms, WShape.armsAll])
    (show (WTm.eq .res (.lit (.bool true))).value [] { args := args, res := some (.bool true), after := args } = some (.bool (true == true)) from w_eq_bool (w_res rfl) w_lit) rfl

theorem attach_call {l : OpenLaw} {n : Nat} {q : Program} {loose : List Str} {XP : (Str → Option Value) → Heap → Prop} {YP : World → Heap → Prop} {d : DefRec}
    (hn : l.most = some n) (hdf : d.params.defaults = [])
    (call : ∀ (w : World) (s₀ s₁ : Shared) (mg mb : Str → Option Value) (fa : Addr) (o : Obj) (pm cd doc : Value) (a : Addr) (vs : List Value) (ns : List Int),
      Ground q loose [] XP w s₀ mg mb s₁.heap → YP w s₁.heap →
      s₁.heap.get? fa = some o → o.data = .func (docDef d.name d.params d.body d.scope pm cd doc) → s₁.heap.CodeRec cd d.name → mg d.name = some (.ref fa) →
      s₁.heap.get? a = some { cls := .type "list", data := .seq vs.toArray } → IntsAre vs ns → ns.length ≤ n → s₁.gens = #[] →
      codeAny (model l.prog w) callerA (.call (.ref fa) ⟨[.ref a], []⟩) (fun r s' => r = .ok (.ret (.bool true)) ∧ OldK s₁.heap s'.heap ∧ s'.os = s₁.os ∧ AllBare s'.gens) s₁) :
    WalkO q loose XP YP l.row.toRowW d [] (fun f vs => PySem.call f vs) := by
  intro w s₀ s₁ mg mb G Y fa o pm cd doc dV kV ho hd hcd hD hmg hg args vals as hpre hlay hrd hwl hlo
  obtain rfl : dV = .none := Dflts.none hD hdf
  obtain rfl : kV = .none := Dflts.noKw hD
  obtain ⟨a, vs, ns, rfl, rfl, hobj, hints, hlen⟩ := script_of hn hpre hwl
  refine enter_call (codeAny_mono (call w s₀ s₁ mg mb fa o pm cd doc a vs ns G Y ho (fd_plain hd) hcd hmg hobj hints hlen hg) fun r s' hq => ?_)
  obtain ⟨rfl, h2, h3, h4⟩ := hq
  exact ⟨.inl ⟨.bool true, .bool true, [], rfl, fun _ => rfl, .bool true, post_true l _, fun _ => ⟨List.Pairwise.nil, fun _ hm => (nomatch hm)⟩⟩, h2, h3, h4⟩

section
variable {prog : Program} {w : World} {A : Around} {E : Value → Shared → Prop} {s : Shared} {K : Frag}

end
end Att

namespace L2
open PySem PySem.Spec PyProof.Rows

theorem vals_ints : ∀ {vs : List Value} {ns : List Int}, IntsAre vs ns → Vals (ns.map V.int) vs
  | _, _, .nil => .nil
  | _, _, .cons n t h => .cons ⟨t, rfl⟩ (vals_ints h)

def Only (H : Hp) : Prop := ∀ b, H b = none ∨ ∃ o xs, H b = some (.frz o (.lst xs))

theorem law_call {P : Program} {w : World} {K : PySem.W.Frag} {mg mb : Str → Option Value} {CX : CXT} {k : Nat} {fa a : Addr} {fd : FuncData} {x : Str} {sp : Sp} {s₁ : Shared} {vs : List Value} {ns : List Int}
    (KX : K.In s₁.heap) (hns : s₁.heap.Ns mainGlobals mg) (hb : s₁.heap.Ns builtinsNs mb) (hbb : ∀ x : Str, x ≠ "__name__" → mb x = bootBuiltins x) (hlim : s₁.heap.NoLimit) (hg : s₁.gens = #[])
    (ha : s₁.heap.get? a = some { cls := .type "list", data := .seq vs.toArray }) (hi : IntsAre vs ns) (hl : ns.length ≤ sizeLine) (hr : Room k callerA)
    (F : ∀ base : Heap, K.In base → base.Ns mainGlobals mg → FnOk P w K mg base CX k fa fd [x] sp) (hbind : ∀ (s : Shared) (u : Value), BindsTo s fd ⟨[u], []⟩ [(x, u)])
    (hsp : ∀ H : Hp, Only H → SqL K H a (ns.map V.int) → sp [.ref a] H (fun v _ => v = .bl true) fun _ _ _ => False)
    (hCX : ∀ H e s', CX [] H s₁ (fun _ _ _ => False) e s' → False) :
    codeAny (model P w) callerA (.call (.ref fa) ⟨[.ref a], []⟩) (fun r s' => r = .ok (.ret (.bool true)) ∧ OldK s₁.heap s'.heap ∧ s'.os = s₁.os ∧ AllBare s'.gens) s₁ := by
  have rv := vals_ints hi
  have lenV := hi.length
  -- from an abstract heap in which nothing but the script may be tracked
  have core : ∀ H : Hp, Only H → SqL K H a (ns.map V.int) → HOk P w H s₁.heap → (∀ b, H b ≠ none → b = a) → (H a ≠ none → K.lookup a = none) →
      codeAny (model P w) callerA (.call (.ref fa) ⟨[.ref a], []⟩) (fun r s' => r = .ok (.ret (.bool true)) ∧ OldK s₁.heap s'.heap ∧ s'.os = s₁.os ∧ AllBare s'.gens) s₁ := by
    intro H hO hS hok hA hK
    have base_of : ∀ {b : Addr} {o : Obj}, s₁.heap.get? b = some o → H b = none → (hidT s₁.heap H).get? b = some o := fun e n => hidT_get e n
    have noA : ∀ {b : Addr} {o : Obj} {es : Array DictEntry} {ep : Nat}, s₁.heap.get? b = some o → o.data = .dict es ep → H b = none := fun {b o es ep} e d => by
      cases q : H b with
      | none => rfl
      | some u =>
        have e' : b = a := hA b (by rw [q]; simp)
        subst e'
        rw [ha] at e; cases e
        have d' : Data.seq vs.toArray _ = Data.dict es ep := d
        cases d'
    have nsK : ∀ {b : Addr} {m : Str → Option Value}, s₁.heap.Ns b m → (hidT s₁.heap H).Ns b m := fun {b m} ⟨o, es, ep, e, d, r⟩ => ⟨o, es, ep, base_of e (noA e d), d, r⟩
    have hKb : K.In (hidT s₁.heap H) := fun b o e => base_of (KX b o e) (by
      cases q : H b with
      | none => rfl
      | some u =>
        have e' : b = a := hA b (by rw [q]; simp)
        subst e'
        rw [hK (by rw [q]; simp)] at e; cases e)
    have hM : Mod K mg (hidT s₁.heap H) := ⟨hKb, nsK hns, ⟨mb, nsK hb, hbb⟩, let ⟨mc, h1, h2⟩ := hlim; ⟨mc, nsK h1, h2⟩⟩
    have e0 : Env0 P w K mg (hidT s₁.heap H) callerA [] s₁ H := ⟨rfl, hM, fun b o e => of_hidT e, Nat.le_of_eq (hidT_size _ _), trivial, fun b hb => absurd (show b ∈ ([] : List Addr) from hb) (by simp), hok, .of_eq hg⟩
    refine codeAny_mono ((F _ hKb (nsK hns)).run callerA [] s₁ H ⟨[.ref a], []⟩ [.ref a] [.ref a] _ _ hr e0 (hbind s₁ (.ref a)) (.cons rfl .nil) (hsp H hO hS)) fun r s' h => ?_
    cases r with
    | error e => exact (hCX H e s' h).elim
    | ok fl =>
      cases fl with
      | next => exact False.elim h
      | brk => exact False.elim h
      | cont => exact False.elim h
      | ret u =>
        obtain ⟨v, H', os, bare, un, hok', r', q⟩ := h
        have q' : v = .bl true := q
        subst q'
        obtain rfl : u = Value.bool true := r'
        refine ⟨rfl, OldK.of_keep fun b o e => ?_, os, bare⟩
        cases q : H b with
        | none => exact un.keep b o e q (by intro z; exact absurd (show b ∈ ([] : List Addr) from z) (by simp)) (by simp)
        | some u =>
          rcases hO b with z | ⟨ob, xs, z⟩
          · rw [q] at z; cases z
          · have z2 := un.frzs b ob _ z
            obtain ⟨e1, _⟩ := hok b _ z
            obtain ⟨e2, _⟩ := hok' b _ z2
            rw [e] at e1; cases e1
            exact e2
  cases hk : K.lookup a with
  | some o =>
    -- the script is one of the module's own objects
    have e := KX a o hk
    rw [ha] at e
    cases e
    refine core (fun _ => none) (fun _ => .inl rfl) (.inr ⟨_, vs.toArray, _, hk, rfl, rfl, rfl, by rw [List.size_toArray, lenV]; exact hl, by simpa using rv⟩) (fun b u z => by have z' : (none : Option HO) = some u := z; cases z') (fun b z => absurd rfl z) fun z => absurd rfl z
  | none =>
    refine core (fun b => if b = a then some (.frz { cls := .type "list", data := .seq vs.toArray } (.lst (ns.map V.int))) else none) (fun b => ?_) (.inl (.inr ⟨{ cls := .type "list", data := .seq vs.toArray }, if_pos rfl⟩)) (fun b u z => ?_) (fun b z => ?_) fun _ => hk
    · by_cases hb : b = a
      · exact .inr ⟨_, _, if_pos hb⟩
      · exact .inl (if_neg hb)
    · by_cases hb : b = a
      · have z' := (if_pos hb).symm.trans z
        cases z'
        subst hb
        exact ⟨ha, by rw [List.length_map]; exact hl, vs, _, rv, ha⟩
      · have z' := (if_neg hb).symm.trans z
        cases z'
    · by_cases hb : b = a
      · exact hb
      · exact absurd (if_neg hb) z
end L2

namespace L2
open PySem PySem.Spec PyProof.Rows

theorem walk_of {l : PySem.W.OpenLaw} {n k : Nat} {q : Program} {loose : List Str} {XP : (Str → Option Value) → Heap → Prop} {YP : World → Heap → Prop} {d : DefRec} {K : Params → PySem.W.Frag} {CX : World → CXT} {sp : World → Sp} {x : Str}
    (hn : l.most = some n) (hn2 : n ≤ sizeLine) (hdf : d.params.defaults = []) (hr : Room k callerA)
    (hY : ∀ (w : World) (h : Heap), YP w h → (K w.params).In h)
    (F : ∀ (w : World) (mg : Str → Option Value) (fa : Addr) (h : Heap), (K w.params).In h → h.Ns mainGlobals mg → mg d.name = some (.ref fa) →
      ∃ fd : FuncData, (∀ (s : Shared) (u : Value), BindsTo s fd ⟨[u], []⟩ [(x, u)]) ∧
        ∀ base : Heap, (K w.params).In base → base.Ns mainGlobals mg → FnOk l.prog w (K w.params) mg base (CX w) k fa fd [x] (sp w))
    (hsp : ∀ (w : World) (H : Hp) (a : Addr) (ns : List Int), ns.length ≤ n → Only H → SqL (K w.params) H a (ns.map V.int) → sp w [.ref a] H (fun v _ => v = .bl true) fun _ _ _ => False)
    (hCX : ∀ (w : World) (H : Hp) (s : Shared) (e : Value) (s' : Shared), CX w [] H s (fun _ _ _ => False) e s' → False) :
    PySem.W.WalkO q loose XP YP l.row.toRowW d [] (fun f vs => PySem.call f vs) := by
  refine Att.attach_call hn hdf fun w s₀ s₁ mg mb fa o pm cd doc a vs ns G Y ho hd hcd hmg hobj hints hlen hg => ?_
  have KX := hY w _ Y
  obtain ⟨fd, hb, hF⟩ := F w mg fa _ KX G.T.g hmg
  exact law_call KX G.T.g G.T.b G.T.builtins G.T.nolimit hg hobj hints (Nat.le_trans hlen hn2) hr hF hb (fun H hO hS => hsp w H a ns hlen hO hS) fun H e s' => hCX w H s₁ e s'
end L2

namespace L2
open PySem PySem.Spec PyProof.Rows

def defArgs (s : Stmt) : Arguments := match s with
  | .FunctionDef _ a _ _ _ _ _ _ _ _ => a
  | _ => { posonlyargs := [], args := [], vararg := none, kwonlyargs := [], kw_defaults := [], kwarg := none, defaults := [] }
def defBody (s : Stmt) : List Stmt := match s with
  | .FunctionDef _ _ b _ _ _ _ _ _ _ => b
  | _ => []
def defScope (s : Stmt) : Scope := match s with
  | .FunctionDef _ _ _ _ _ _ sc _ _ _ => sc
  | _ => { kind := .function, names := [], isGenerator := false, isCoroutine := false }

abbrev CX0 : CXT := fun _ _ _ _ _ _ => False
abbrev E0 : XK := fun _ _ _ => False
theorem pass0 {X : Cx} : Passes CX0 X E0 := fun _ _ _ _ _ _ _ h => h.elim

structure Fun (K : PySem.W.Frag) (x qual : Str) (st : Stmt) (f : Addr) (fd : FuncData) : Prop where
  ex : ∃ (oc : Value) (od : Option Addr) (kV doc pm : Value) (an : Option Addr) (cdv ct : Value) (osl : Array (Option Value)),
    fd = PySem.W.fnOf x qual (defArgs st) (defBody st) (defScope st) .none kV doc pm an cdv ct ∧ K.lookup f = some ⟨oc, od, .func fd, osl⟩ ∧ PySem.W.codeIn K cdv qual = true
  kp : PySem.W.keepIn K (.ref f) = true
section
variable {P : Program} {w : World} {K : PySem.W.Frag} {mg : Str → Option Value} {base : Heap}
theorem Fun.ok {x qual : Str} {st : Stmt} {f : Addr} {fd : FuncData} {N ps : List Str} {k : Nat} {sp : Sp} (F : Fun K x qual st f fd) (S : FnScope N ps (defScope st)) (len : ∀ vs H Q E, sp vs H Q E → vs.length = ps.length)
    (hbody : ∀ (cdv : Value) (A : Around) (outer : List Env) (s : Shared) (H : Hp) (vs : List V) (Q : VK) (E : XK), Room k (A.deeper (envOfC qual (defScope st) s.heap.objs.size f cdv)) → sp vs H Q E →
      ∃ t, PSs (cxOf CX0 P w K mg base N qual (defScope st) f cdv A outer s H E).nox (defBody st) t ∧ t { nx := fun _ H' => Q .non H', rt := Q } (start N vs) H) : FnOk P w K mg base CX0 (k + 1) f fd ps sp := by
  obtain ⟨oc, od, kV, doc, pm, an, cdv, ct, osl, rfl, lk, hcd⟩ := F.ex
  refine fn_of lk hcd S len fun A outer s H vs Q E hr hsp => ?_
  obtain ⟨t, h, q⟩ := hbody cdv A outer s H vs Q E hr hsp
  exact ⟨t, h.nox, q⟩
theorem Fun.binds {x qual : Str} {st : Stmt} {f : Addr} {fd : FuncData} {ps : List Str} (F : Fun K x qual st f fd)
    (h : ∀ (kV doc pm : Value) (an : Option Addr) (cdv ct : Value) (us : List Value), us.length = ps.length → bindArgs (PySem.W.fnOf x qual (defArgs st) (defBody st) (defScope st) .none kV doc pm an cdv ct) ⟨us, []⟩ = pure (ps.zip us)) : Binds K fd ps [] := by
  obtain ⟨oc, od, kV, doc, pm, an, cdv, ct, osl, rfl, lk, hcd⟩ := F.ex
  exact .all (h kV doc pm an cdv ct)
theorem fun_mk {x qual : Str} {st : Stmt} {f : Addr} {oc : Value} {od an : Option Addr} {osl : Array (Option Value)} {kV doc pm cdv ct : Value} (l : K.lookup f = some ⟨oc, od, .func (PySem.W.fnOf x qual (defArgs st) (defBody st) (defScope st) .none kV doc pm an cdv ct), osl⟩)
    (c : PySem.W.codeIn K cdv qual = true) (k : PySem.W.keepIn K (.ref f) = true) : Fun K x qual st f (PySem.W.fnOf x qual (defArgs st) (defBody st) (defScope st) .none kV doc pm an cdv ct) := ⟨⟨oc, od, kV, doc, pm, an, cdv, ct, osl, rfl, l, c⟩, k⟩
end
section
variable {X : Cx}
theorem pv (i : Nat) {x : Str} {pos : Pos} (hN : X.N[i]? = some x := by rfl) (hv : Vis X.env.scope x := by first | exact Or.inl rfl | exact Or.inr (Or.inl rfl) | exact Or.inr (Or.inr rfl)) (hd : (x == ("__debug__" : Str)) = false := by decide)
    (hcd : (x == ("__classdict__" : Str)) = false := by decide) : PE X (.Name x pos) (tVar i) := pe_var hN hv hd hcd
end

theorem iteF {A B : Prop} (h : B) : if false = true then A else B := by
  rw [if_neg Bool.false_ne_true]
  exact h
theorem iteT {A B : Prop} (h : A) : if true = true then A else B := by
  rw [if_pos rfl]
  exact h
def Same (H H' : Hp) : Prop := ∀ b o, H b = some o → H' b = some o
theorem Same.refl (H : Hp) : Same H H := fun _ _ h => h
theorem Same.trans {H H1 H2 : Hp} (a : Same H H1) (b : Same H1 H2) : Same H H2 := fun c o h => b c o (a c o h)
theorem Same.free {H H' : Hp} (e : Same H H') {l : Addr} (h : H' l = Option.none) : H l = Option.none := by
  cases q : H l with
  | none => rfl
  | some o =>
    rw [e l o q] at h
    cases h
theorem Same.seq {K : PySem.W.Frag} {H H' : Hp} {a : Addr} {xs : List V} (e : Same H H') (h : SqL K H a xs) : SqL K H' a xs := by
  rcases h with (h | ⟨o, h⟩) | h
  · exact .inl (.inl (e _ _ h))
  · exact .inl (.inr ⟨o, e _ _ h⟩)
  · exact .inr h

end L2

set_option maxHeartbeats 4000000
namespace L2
open PySem PySem.Spec PyProof.Rows



section
variable {X : Cx} {pins : List (Addr × Obj)} {σ : St} {H : Hp} {s : Shared} {a : Addr} {y v : V} {u r : Value} {o : Option V} {A : Around} {E : Value → Shared → Prop}

end




structure M1 (X : Cx) (o : Expr) (m : Str) (apos : Pos) (e : Expr) (cpos : Pos) : Prop where
  base : attributeBase o m X.env (eval o X.env) = eval o X.env
  few : ((backTo cpos (starEach [e] X.env)).all (fun x => !x.1) && (backToKw cpos (keywordEach [] X.env)).all (fun x => x.1.isSome)
    && decide (([e] : List Expr).length + ([] : List Keyword).length + (if ([] : List Keyword).isEmpty then 0 else 1) < 30)) = true
  line : (apos.endLine == cpos.line) = true
  trees : backTo cpos (starEach [e] X.env) = [(false, eval e X.env)]
structure M2 (X : Cx) (o : Expr) (m : Str) (apos : Pos) (e f : Expr) (cpos : Pos) : Prop where
  base : attributeBase o m X.env (eval o X.env) = eval o X.env
  few : ((backTo cpos (starEach [e, f] X.env)).all (fun x => !x.1) && (backToKw cpos (keywordEach [] X.env)).all (fun x => x.1.isSome)
    && decide (([e, f] : List Expr).length + ([] : List Keyword).length + (if ([] : List Keyword).isEmpty then 0 else 1) < 30)) = true
  line : (apos.endLine == cpos.line) = true
  trees : backTo cpos (starEach [e, f] X.env) = [(false, eval e X.env), (false, eval f X.env)]




end L2

namespace L2
open PySem PySem.Spec PyProof.Rows
end L2

namespace L2
open PySem PySem.Spec PyProof.Rows PySem.Builtin PySem.Builtin.Str

def T (l : List Nat) : Str := ⟨l.toArray⟩
theorem T_cps (l : List Nat) : (T l).cps.toList = l := by simp [T]
theorem T_inj {a b : List Nat} : T a = T b ↔ a = b := by
  constructor
  · intro h
    have := congrArg (fun x : Str => x.cps.toList) h
    simpa [T] using this
  · rintro rfl; rfl
theorem T_len (l : List Nat) : (T l).length = l.length := by simp [T, Str.length]
theorem T_app (a b : List Nat) : T a ++ T b = T (a ++ b) := by
  show Str.append (T a) (T b) = _
  simp [Str.append, T]
theorem T_decide (a b : List Nat) : decide ((V.str (T a)) = V.str (T b)) = decide (a = b) := by
  by_cases h : a = b
  · subst h; simp
  · rw [decide_eq_false h, decide_eq_false]
    intro q; injection q with q; exact h (T_inj.mp q)

def cutL (xs : List Nat) (lo hi : Option Int) : List Nat := (xs.drop (HT.sIx xs.length 0 lo)).take (HT.sIx xs.length xs.length hi - HT.sIx xs.length 0 lo)
theorem sliceIdx_cut (lo hi : Option Int) (n : Nat) : strSliceIndices lo hi 1 n = (List.range (HT.sIx n n hi - HT.sIx n 0 lo)).map (HT.sIx n 0 lo + ·) := by
  have h1 : (1 : Int) > 0 := by decide
  have a : ∀ (v : Int) (d : Nat), max 0 (min (if v < 0 then v + (n : Int) else v) (n : Int)) = ((HT.sIx n d (some v) : Nat) : Int) := by
    intro v d
    show _ = (((if v < 0 then (v + (n : Int)).toNat else min v.toNat n) : Nat) : Int)
    by_cases hv : v < 0
    · simp only [if_pos hv]; omega
    · simp only [if_neg hv]; omega
  have key : ∀ (p q : Nat), sliceRange (p : Int) (q : Int) 1 = (List.range (q - p)).map (p + ·) := by
    intro p q
    unfold sliceRange
    simp only [h1, if_true]
    have e : (if (p : Int) < (q : Int) then ((q : Int) - p + 1 - 1) / 1 else 0).toNat = q - p := by
      split <;> omega
    rw [e]
    refine List.map_congr_left fun k _ => ?_
    omega
  unfold strSliceIndices
  simp only [h1, if_true]
  cases lo with
  | none =>
    cases hi with
    | none => exact key 0 n
    | some v => dsimp only; rw [a v n]; exact key 0 _
  | some u =>
    cases hi with
    | none => dsimp only; rw [a u 0]; exact key _ n
    | some v => dsimp only; rw [a u 0, a v n]; exact key _ _
theorem sIx_hi_le (n : Nat) (o : Option Int) : HT.sIx n n o ≤ n := HT.sIx_le n n (Nat.le_refl _) o
theorem slice_cut (x : List Nat) (lo hi : Option Int) : Txt.slice (T x) lo hi = T (cutL x lo hi) := by
  have hlen : (T x).length = x.length := T_len x
  have hle := sIx_hi_le x.length hi
  have e : (strSliceIndices lo hi 1 (T x).length).filterMap ((T x).cps[·]?) = cutL x lo hi := by
    rw [sliceIdx_cut, hlen]
    unfold cutL
    generalize hp : HT.sIx x.length 0 lo = p
    generalize HT.sIx x.length x.length hi = q at hle ⊢
    by_cases hpq : p ≤ q
    · have := StrLaws.picks x (q - p) p (by omega)
      rw [← this]
      simp [T]
    · have : q - p = 0 := by omega
      rw [this]; simp
  unfold Txt.slice
  split
  · rename_i h
    have h2 : (strSliceIndices lo hi 1 (T x).length).length = (T x).length := by
      simp only [Bool.and_eq_true, beq_iff_eq] at h; exact h.2
    rw [sliceIdx_cut, hlen, List.length_map, List.length_range] at h2
    have h3 : HT.sIx x.length 0 lo ≤ x.length := HT.sIx_le _ 0 (Nat.zero_le _) lo
    unfold cutL
    by_cases hx : x.length = 0
    · have : x = [] := List.eq_nil_of_length_eq_zero hx
      subst this; simp
    · have e1 : HT.sIx x.length 0 lo = 0 := by omega
      have e2 : HT.sIx x.length x.length hi = x.length := by omega
      rw [e1, e2]; simp
  · rw [e]; rfl

section
variable {X : Cx}
theorem vals_strs : ∀ (l : List (Str × Tok)), Vals ((l.map (·.1)).map V.str) (strValues l)
  | [] => .nil
  | p :: r => .cons ⟨p.2, rfl⟩ (vals_strs r)
theorem strs_vals : ∀ {ys : List Str} {us : List Value}, Vals (ys.map V.str) us → StrsAre us ys
  | [], _, h => by cases h; exact .nil
  | y :: r, _, h => by
    cases h with
    | cons a b =>
      obtain ⟨t, rfl⟩ := a
      exact .cons y t (strs_vals b)
def rJoin (K : PySem.W.Frag) : V → List V → Hp → VK → Prop := fun x vs H Q => ∃ z p ys, x = .str z ∧ vs = [.ref p] ∧ SqL K H p (ys.map V.str) ∧ (ys.map (·.length)).sum + ys.length * z.length ≤ 16777216 ∧ Q (.str (Str.join z ys)) H
theorem mt_join : MtR X "str.join" (rJoin X.K) := by
  intro pins s σ H x xs v us Q I rx rs h
  obtain ⟨z, p, ys, rfl, rfl, hl, hz, q⟩ := h
  obtain ⟨t, rfl⟩ := rx
  obtain ⟨u, rfl, ru⟩ := Vals.one rs
  cases ru
  obtain ⟨its, r, pl, _⟩ := I.list hl
  refine join_list pl.isList (ys := ys) (by simpa using strs_vals r) hz fun t' k => ⟨.str _, H, I.tok _, ⟨_, by show _ = Value.str (Str.join z ys) t'; rw [← StrLaws.glued_eq_join]; rfl⟩, q⟩
def rSlS : V → Option Int → Option Int → Hp → VK → Prop := fun x lo hi H Q => ∃ l, x = .str (T l) ∧ l.length ≤ sizeLine ∧ Q (.str (T (cutL l lo hi))) H
theorem sl_str : SlR X rSlS := by
  intro pins s σ H x v vl vu lo hi sl Q I rx hs pl pu h
  obtain ⟨l, rfl, hz, q⟩ := h
  obtain ⟨t, rfl⟩ := rx
  refine ⟨"str", _, F.slot_str_getitem.lookup, typeIs_str _ _ _, ?_⟩
  have hz' : (T l).length ≤ sizeLine := by rw [T_len]; exact hz
  have fin : (Txt.slice (T l) lo hi).length ≤ sizeLine ∧ ∀ t' k, EP X pins σ Q (.str (Txt.slice (T l) lo hi) t') { s with toks := k } :=
    ⟨Nat.le_trans (Txt.slice_le _ _ _) hz', fun t' k => ⟨.str _, H, I.tok _, ⟨_, by rw [slice_cut]⟩, q⟩⟩
  obtain ⟨o, ho, hc, hd⟩ := hs
  cases pl with
  | none =>
    cases pu with
    | none => exact wpAny_getItem_str_slice (l := none) (u := none) (st := none) ⟨o, ho, hc, hd⟩ rfl (post_val_or_str fin)
    | int j uj => exact wpAny_getItem_str_slice (l := none) (u := some (j, uj)) (st := none) ⟨o, ho, hc, hd⟩ rfl (post_val_or_str fin)
  | int i ui =>
    cases pu with
    | none => exact wpAny_getItem_str_slice (l := some (i, ui)) (u := none) (st := none) ⟨o, ho, hc, hd⟩ rfl (post_val_or_str fin)
    | int j uj => exact wpAny_getItem_str_slice (l := some (i, ui)) (u := some (j, uj)) (st := none) ⟨o, ho, hc, hd⟩ rfl (post_val_or_str fin)
end

def Its (x : Str) : It := ⟨fun i _ => i < x.cps.toList.length, fun i H v H' => H' = H ∧ ∃ c, x.cps.toList[i]? = some c ∧ v = .str (T [c]), fun i _ => x.cps.toList.length ≤ i⟩
theorem turn_walk {P : Program} {w : World} {K : PySem.W.Frag} {tg : Expr} {it : Addr} {n : Nat} {R : Nat → Value → Prop} {St : Nat → Heap → Prop} {J : It}
    (W : ∀ A' : Around, A'.handled = none → Walks P w A' it [it] [it] n R St) (hself : ∀ (A' : Around) (i : Nat) (s : Shared) (Q : Value → Shared → Prop) (E : Value → Shared → Prop), St i s.heap → Q (.ref it) s → wpAny (model P w) A' (pyIter (.ref it)) Q E s) (ho : ∀ i h, St i h → ∃ o T vs, h.get? it = some o ∧ o.cls = .type T ∧ o.data = .fields vs ∧ ["enumerate", "zip", "dict_itemiterator", "dict_reverseitemiterator", "odict_iterator", "itertools.zip_longest", "itertools.pairwise"].contains T = false)
    (hgo : ∀ i H, J.go i H → i < n) (hst : ∀ i H, J.stop i H → n ≤ i) (hy : ∀ i v H, i < n → R i v → ∃ x, RelV x v ∧ J.yld i H x H) : Turn P w K tg J [it] it (fun i h => i ≤ n ∧ St i h) where
  mem := by simp
  obj := fun i h st b hb => by
    have e : b = it := by simpa using hb
    subst e
    obtain ⟨o, T, vs, e, c, d, _⟩ := ho i h st.2
    exact ⟨o, e, fun v z => by rw [d] at z; cases z⟩
  keep := fun i h h' st k => ⟨st.1, by
    have W0 := W ({} : Around) rfl
    exact W0.frame i h h' st.2 fun b hb o e => k b hb o e⟩
  item := by
    intro X hP hw hK hc i pins s σ H E I hf st hg
    subst hP hw hK
    obtain ⟨f0, f1, f2, f3, f4, f5⟩ := hf it (by simp)
    have hi := hgo i H hg
    refine (W X.A (I.ok.hd hc)).item i s _ _ hi st.2 fun v h' tk hv st' kk => ?_
    obtain ⟨x, rx, yx⟩ := hy i v H hi hv
    have I1 : Inv X pins σ H { s with heap := h', toks := tk } := I.turned (fun b o hb e => kk b o (by simpa using hb) e) f0 f1 f3 f4 f5
    obtain ⟨o, T, vs, e, c, d, nz⟩ := ho _ _ st'
    exact ⟨v, rfl, go_of (s := { s with heap := h', toks := tk }) (n := T) e c d nz ⟨x, H, I1, rx, yx, ⟨hi, st'⟩, fun b hb => (hf b hb).1⟩⟩
  done := by
    intro X hP hw hK hc i pins s σ H E I hf st hg
    subst hP hw hK
    obtain ⟨f0, f1, f2, f3, f4, f5⟩ := hf it (by simp)
    have e : i = n := Nat.le_antisymm st.1 (hst i H hg)
    subst e
    exact (W X.A (I.ok.hd hc)).done s _ _ st.2 fun h' tk kk => ⟨rfl, I.turned (fun b o hb e => kk b o (by simpa using hb) e) f0 f1 f3 f4 f5⟩
  self := fun A i s Q E st h => hself A i s Q E st.2 h
section
variable {X : Cx} {tg : Expr}
def iStr (tl : TE) : TI := fun σ H R => tl σ H fun x H1 => ∃ z, x = .str z ∧ R (Its z) H1
theorem pi_str {l : Expr} {tl : TE} (hl : PE X l tl) : PI X tg l (iStr tl) := by
  intro pins s σ H R I h
  refine thn (hl pins s σ H _ I h) fun v s1 ⟨x, H1, I1, r1, q1⟩ => ?_
  obtain ⟨z, e, q⟩ := q1
  subst e
  obtain ⟨t, rfl⟩ := r1
  have fin : ∀ (o : Obj) (St : Nat → Heap → Prop), Turn X.prog X.w X.K tg (Its z) [s1.heap.objs.size] s1.heap.objs.size (fun i h => i ≤ z.cps.size ∧ St i h) → St 0 (s1.heap.push o) →
      PIE X pins σ tg R (.ref s1.heap.objs.size) { s1 with heap := s1.heap.push o } := fun o St Tn st => by
    refine ⟨s1.heap.objs.size, [s1.heap.objs.size], _, _, H1, rfl, I1.kept (t' := s1.toks) fun b o e => Heap.get?_push_of_some _ e, Tn, ⟨Nat.zero_le _, st⟩, fun b hb => ?_, q⟩
    have e : b = s1.heap.objs.size := by simpa using hb
    subst e
    exact I1.fpOk (Nat.le_refl _) (I1.hok.fresh (Nat.le_refl _))
  have hgo : ∀ i H, (Its z).go i H → i < z.cps.size := fun i _ h => by simpa [Its] using h
  have hst : ∀ i H, (Its z).stop i H → z.cps.size ≤ i := fun i _ h => by simpa [Its] using h
  have hy : ∀ i v H, i < z.cps.size → SignAt z i v → ∃ x, RelV x v ∧ (Its z).yld i H x H := fun i v H hi ⟨c, u, hc, e⟩ => by
    subst e
    exact ⟨.str (T [c]), ⟨u, rfl⟩, rfl, c, by simpa using hc, rfl⟩
  cases ha : z.cps.all (· < 128)
  · refine wpAny_pyIter_wide ha (fin _ _ (turn_walk (n := z.cps.size) (R := SignAt z) (St := fun i h => h.IsStrIter s1.heap.objs.size "str_iterator" z t i) (fun A' hA => Walks.strWide hA _ z t) (fun _ _ _ _ _ st q => wpAny_pyIter_striter_wide st q) (fun i h st => ?_) hgo hst hy) ⟨_, Heap.get?_push_size _ rfl, rfl, rfl⟩)
    obtain ⟨o, e, c, d⟩ := st
    exact ⟨o, _, _, e, c, d, by decide⟩
  · refine wpAny_pyIter_ascii ha (fin _ _ (turn_walk (n := z.cps.size) (R := SignAt z) (St := fun i h => h.IsStrIter s1.heap.objs.size "str_ascii_iterator" z t i) (fun A' hA => Walks.strAscii hA _ z t) (fun _ _ _ _ _ st q => wpAny_pyIter_striter_ascii st q) (fun i h st => ?_) hgo hst hy) ⟨_, Heap.get?_push_size _ rfl, rfl, rfl⟩)
    obtain ⟨o, e, c, d⟩ := st
    exact ⟨o, _, _, e, c, d, by decide⟩
end
end L2

namespace L2
open PySem PySem.Spec PyProof.Rows

def clos (cells : List (Str × Addr)) : List (Str × NameKind) → List (Str × Addr) → List (Str × Addr)
  | [], acc => acc
  | (n, k) :: r, acc => if k == .free then (match cells.lookup n with | some c => clos cells r ((n, c) :: acc) | none => clos cells r acc) else clos cells r acc
theorem clos_sub {cells : List (Str × Addr)} : ∀ (names : List (Str × NameKind)) (acc : List (Str × Addr)), (∀ x c, acc.lookup x = some c → cells.lookup x = some c) → ∀ x c, (clos cells names acc).lookup x = some c → cells.lookup x = some c
  | [], _, h => h
  | (n, k) :: r, acc, h => by
    intro x c
    unfold clos
    split
    · cases e : cells.lookup n with
      | none => exact clos_sub r acc h x c
      | some d =>
        refine clos_sub r _ (fun y z hy => ?_) x c
        rw [List.lookup_cons] at hy
        cases q : y == n with
        | true =>
          rw [q] at hy
          have : y = n := by simpa using q
          subst this
          simpa [e] using hy
        | false => rw [q] at hy; exact h y z hy
    · exact clos_sub r acc h x c
theorem clos_acc {cells : List (Str × Addr)} : ∀ (names : List (Str × NameKind)) (acc : List (Str × Addr)) (x : Str), (acc.lookup x).isSome = true → ((clos cells names acc).lookup x).isSome = true
  | [], _, _, h => h
  | (n, k) :: r, acc, x, h => by
    unfold clos
    split
    · cases e : cells.lookup n with
      | none => exact clos_acc r acc x h
      | some d =>
        refine clos_acc r _ x ?_
        rw [List.lookup_cons]
        cases q : x == n with
        | true => rfl
        | false => exact h
    · exact clos_acc r acc x h
theorem clos_has {cells : List (Str × Addr)} : ∀ (names : List (Str × NameKind)) (acc : List (Str × Addr)) (x : Str), (x, NameKind.free) ∈ names → (cells.lookup x).isSome = true → ((clos cells names acc).lookup x).isSome = true
  | (n, k) :: r, acc, x, hm, hs => by
    unfold clos
    rcases List.mem_cons.mp hm with e | hm
    · cases e
      simp only [beq_self_eq_true, if_true]
      obtain ⟨c, hc⟩ := Option.isSome_iff_exists.mp hs
      rw [hc]
      refine clos_acc r _ _ ?_
      simp [List.lookup_cons]
    · split
      · cases e : cells.lookup n with
        | none => exact clos_has r acc x hm hs
        | some d => exact clos_has r _ x hm hs
      · exact clos_has r acc x hm hs
theorem closure_eq {scope : Scope} {env : Env} (h : ∀ x, (x, NameKind.free) ∈ scope.names → (env.cells.lookup x).isSome = true) : closureFor scope env = pure (clos env.cells scope.names []) := by
  have gen : ∀ (names : List (Str × NameKind)) (acc : List (Str × Addr)), (∀ x, (x, NameKind.free) ∈ names → (env.cells.lookup x).isSome = true) →
      (forIn names acc (fun (p : Str × NameKind) (r : List (Str × Addr)) => (if p.2 == NameKind.free then (do let c ← cellOf env p.1; pure (ForInStep.yield ((p.1, c) :: r))) else pure (ForInStep.yield r) : Sem (ForInStep (List (Str × Addr)))))) = pure (clos env.cells names acc) := by
    intro names
    induction names with
    | nil => intro acc _; rfl
    | cons p r ih =>
      obtain ⟨n, k⟩ := p
      intro acc hh
      rw [List.forIn_cons]
      unfold clos
      cases hk : k == NameKind.free with
      | false =>
        simp only [hk, Bool.false_eq_true, if_false]
        exact ih acc fun x hx => hh x (List.mem_cons_of_mem _ hx)
      | true =>
        have hk' : k = .free := by simpa using hk
        subst hk'
        obtain ⟨c, hc⟩ := Option.isSome_iff_exists.mp (hh n List.mem_cons_self)
        have e : cellOf env n = pure c := by unfold cellOf; rw [hc]
        simp only [beq_self_eq_true, if_true, e, hc]
        exact ih _ fun x hx => hh x (List.mem_cons_of_mem _ hx)
  exact (congrArg (fun (m : Sem (List (Str × Addr))) => m >>= fun cs => pure cs) (gen scope.names [] h)).trans rfl

def lcS (nt : Nat) (cs : List Nat) (σ : St) : St := List.replicate nt none ++ cs.map fun i => (σ[i]?).getD none
def lcCx (X : Cx) (N' : List Str) (scope : Scope) (s : Shared) (H : Hp) (C : Addr) (fp : List Addr) : Cx :=
  { X with N := N', s₀ := s, H₀ := H, env := compEnvC scope (clos X.env.cells scope.names []) C X.env, outer := X.stack, stack := X.stack, ex := fp, fn := fun _ => false, pn := [], xe := fun _ _ => False }
def lcOk (Nx : List Str) (sc scope : Scope) (N' : List Str) (nt : Nat) (cs : List Nat) : Bool :=
  decide (scope.kind = .function) && (scope.names.all fun p => match p.2 with
    | .cell => false
    | .local => decide (scope.names.lookup p.1 = some .local)
    | .free => decide (sc.names.lookup p.1 = some .cell) || decide (sc.names.lookup p.1 = some .free)
    | _ => true) && decide (N'.length = nt + cs.length) && (((N'.drop nt).zip cs).all fun p => decide (Nx[p.2]? = some p.1) && decide (scope.names.lookup p.1 = some .free) && (decide (sc.names.lookup p.1 = some .cell) || decide (sc.names.lookup p.1 = some .free)))
structure LcOk (X : Cx) (scope : Scope) (N' : List Str) (nt : Nat) (cs : List Nat) : Prop where
  kind : scope.kind = .function
  nocell : ∀ y ∈ scope.names, y.2 ≠ .cell
  loc : ∀ y ∈ scope.names, y.2 = .local → scope.names.lookup y.1 = some .local
  fr : ∀ x, (x, NameKind.free) ∈ scope.names → X.env.kindOf x = some .cell ∨ X.env.kindOf x = some .free
  len : N'.length = nt + cs.length
  cap : ∀ j i, cs[j]? = some i → ∃ x, N'[nt + j]? = some x ∧ X.N[i]? = some x ∧ scope.names.lookup x = some .free ∧ Vis X.env.scope x ∧ X.env.kindOf x ≠ some .local
theorem LcOk.of {X : Cx} {scope : Scope} {N' : List Str} {nt : Nat} {cs : List Nat} {Nx : List Str} {sc : Scope} (hN : X.N = Nx) (hs : X.env.scope = sc) (h : lcOk Nx sc scope N' nt cs = true) : LcOk X scope N' nt cs := by
  subst hN hs
  unfold lcOk at h
  simp only [Bool.and_eq_true, decide_eq_true_eq, List.all_eq_true] at h
  obtain ⟨⟨⟨h1, h2⟩, h3⟩, h4⟩ := h
  refine ⟨h1, fun y hy e => ?_, fun y hy e => ?_, fun x hx => ?_, h3, fun j i e => ?_⟩
  · have := h2 y hy; rw [e] at this; exact Bool.false_ne_true this
  · have := h2 y hy; rw [e] at this; exact of_decide_eq_true this
  · have := h2 _ hx
    simp only [Bool.or_eq_true, decide_eq_true_eq] at this
    exact this
  · have hj : j < cs.length := (List.getElem?_eq_some_iff.mp e).1
    have hd : (N'.drop nt).length = cs.length := by rw [List.length_drop, h3]; omega
    have hx : (N'.drop nt)[j]? = some ((N'.drop nt)[j]'(by omega)) := by simp [hd, hj]
    generalize (N'.drop nt)[j]'(by omega) = x at hx
    have hz : (x, i) ∈ (N'.drop nt).zip cs := by
      refine List.mem_of_getElem? (i := j) ?_
      rw [List.getElem?_zip_eq_some]
      exact ⟨hx, e⟩
    have q := h4 _ hz
    simp only [Bool.and_eq_true, Bool.or_eq_true, decide_eq_true_eq] at q
    refine ⟨x, by rw [List.getElem?_drop] at hx; exact hx, q.1.1, q.1.2, ?_, fun z => ?_⟩
    · exact q.2.elim (fun z => .inr (.inl z)) fun z => .inr (.inr z)
    · have z' : X.env.scope.names.lookup x = some .local := z
      rcases q.2 with y | y <;> · rw [z'] at y; cases y
theorem relabel_free {env : Env} : ∀ {names : List (Str × NameKind)} {x : Str}, names.lookup x = some .free →
    (names.map fun (n, k) => if (k == NameKind.free && env.scope.kind == .function && env.kindOf n == some .cell) then (n, NameKind.cell) else (n, k)).lookup x = some .cell ∨
    (names.map fun (n, k) => if (k == NameKind.free && env.scope.kind == .function && env.kindOf n == some .cell) then (n, NameKind.cell) else (n, k)).lookup x = some .free
  | [], _, h => by simp at h
  | (n, k) :: r, x, h => by
    have ih := @relabel_free env r x
    show List.lookup x ((if (k == NameKind.free && env.scope.kind == .function && env.kindOf n == some .cell) = true then (n, NameKind.cell) else (n, k)) :: _) = _ ∨ List.lookup x ((if (k == NameKind.free && env.scope.kind == .function && env.kindOf n == some .cell) = true then (n, NameKind.cell) else (n, k)) :: _) = _
    cases hx : x == n with
    | true =>
      simp only [List.lookup_cons, hx] at h
      cases h
      by_cases hc : (NameKind.free == NameKind.free && env.scope.kind == .function && env.kindOf n == some .cell) = true
      · rw [if_pos hc]; left; simp only [List.lookup_cons, hx]
      · rw [if_neg hc]; right; simp only [List.lookup_cons, hx]
    | false =>
      simp only [List.lookup_cons, hx] at h
      by_cases hc : (k == NameKind.free && env.scope.kind == .function && env.kindOf n == some .cell) = true
      · rw [if_pos hc]; simp only [List.lookup_cons, hx]; exact ih h
      · rw [if_neg hc]; simp only [List.lookup_cons, hx]; exact ih h
theorem relabel_back {env : Env} : ∀ {names : List (Str × NameKind)} {x : Str} {q : NameKind}, (∀ y ∈ names, y.2 ≠ .cell) → (q = .cell ∨ q = .free) →
    (names.map fun (n, k) => if (k == NameKind.free && env.scope.kind == .function && env.kindOf n == some .cell) then (n, NameKind.cell) else (n, k)).lookup x = some q → (x, NameKind.free) ∈ names
  | [], _, _, _, _, h => by simp at h
  | (n, k) :: r, x, q, hn, hq, h => by
    have ih := @relabel_back env r x q (fun y hy => hn y (List.mem_cons_of_mem _ hy)) hq
    have h' : List.lookup x ((if (k == NameKind.free && env.scope.kind == .function && env.kindOf n == some .cell) = true then (n, NameKind.cell) else (n, k)) :: (r.map fun (n, k) => if (k == NameKind.free && env.scope.kind == .function && env.kindOf n == some .cell) then (n, NameKind.cell) else (n, k))) = some q := h
    cases hx : x == n with
    | true =>
      have e : x = n := by simpa using hx
      subst e
      by_cases hc : (k == NameKind.free && env.scope.kind == .function && env.kindOf x == some .cell) = true
      · simp only [Bool.and_eq_true, beq_iff_eq] at hc
        rw [hc.1.1]; exact List.mem_cons_self
      · rw [if_neg hc] at h'
        simp only [List.lookup_cons, beq_self_eq_true] at h'
        cases h'
        rcases hq with rfl | rfl
        · exact absurd rfl (hn (x, .cell) List.mem_cons_self)
        · exact List.mem_cons_self
    | false =>
      refine List.mem_cons_of_mem _ (ih ?_)
      by_cases hc : (k == NameKind.free && env.scope.kind == .function && env.kindOf n == some .cell) = true
      · rw [if_pos hc] at h'; simp only [List.lookup_cons, hx] at h'; exact h'
      · rw [if_neg hc] at h'; simp only [List.lookup_cons, hx] at h'; exact h'

section
variable {X : Cx} {pins : List (Addr × Obj)} {σ : St} {H : Hp} {s s' : Shared} {scope : Scope} {N' : List Str} {nt : Nat} {cs : List Nat} {C : Addr} {fp : List Addr} {h' : Heap} {t' : Nat}
theorem lc_enter (I : Inv X pins σ H s) (L : LcOk X scope N' nt cs) (hf : ∀ b ∈ fp, FpOk X pins H b) (hC : s.heap.objs.size ≤ C) (k : ∀ b u, s.heap.get? b = some u → h'.get? b = some u) (hns : h'.Ns C fun _ => none) (fpo : ∀ b ∈ fp, b < s.heap.objs.size) :
    Inv (lcCx X N' scope s H C fp) [] (lcS nt cs σ) H { s with heap := h', toks := t' } := by
  have hfree : H C = none := I.hok.fresh hC
  have csub : ∀ x c, (clos X.env.cells scope.names []).lookup x = some c → X.env.cells.lookup x = some c := clos_sub _ _ fun x c h => by simp at h
  have chas : ∀ x, (x, NameKind.free) ∈ scope.names → ((clos X.env.cells scope.names []).lookup x).isSome = true := fun x hx => by
    refine clos_has _ _ x hx ?_
    obtain ⟨c, e⟩ := I.ok.has x (L.fr x hx)
    rw [e]; rfl
  have I4 : Inv X pins σ H { s with heap := h', toks := t' } := I.kept k
  refine ⟨⟨I.ok.mod, L.kind, I.ok.glob, I.ok.blt, hC, fun x y c h1 h2 => I.ok.inj x y c (csub x c h1) (csub y c h2), fun x hx => ?_, fun x c hx => (nomatch hx), I.ok.hd, I.ok.frames, .inl rfl, fun b hb => ⟨?_, fun x c e => ?_⟩, I.bs, Nat.le_trans I.ok.bsz I.sz, fun b o e hb => ?_, fun b hb => ?_, I.stack, I.stkFree⟩,
    rfl, I.bare, Un.kept k, ⟨_, hns, fun i x v e1 e2 e3 => ?_⟩, fun x c e => ?_, hfree, fun x c e => I.freeC x c (csub x c e), fun p hp => absurd (show p ∈ ([] : List (Addr × Obj)) from hp) (by simp), I4.hok, ?_⟩
  · have hx' : (x, NameKind.free) ∈ scope.names := by
      rcases hx with hx | hx
      · exact relabel_back (env := X.env) L.nocell (.inl rfl) hx
      · exact relabel_back (env := X.env) L.nocell (.inr rfl) hx
    exact Option.isSome_iff_exists.mp (chas x hx')
  · exact Nat.ne_of_lt (Nat.lt_of_lt_of_le (fpo b hb) hC)
  · exact (hf b hb).2.2.2.2.1 x c (csub x c e)
  · obtain ⟨f0, f1, f2, f3, _⟩ := hf b hb
    rcases f3 with z | z
    · exact I.ok.noex b o e z
    · exact absurd (Nat.lt_of_lt_of_le (Heap.lt_size e) (Nat.le_trans I.ok.bsz z)) (Nat.lt_irrefl _)
  · obtain ⟨f0, f1, f2, f3, _⟩ := hf b hb
    intro z
    rcases List.mem_cons.mp (I.stkSub b z) with q | q
    · exact f1 q
    · exact f2 q
  · -- a captured name
    have e2' : (lcS nt cs σ)[i]? = some (some v) := e2
    unfold lcS at e2'
    by_cases hi : i < nt
    · rw [List.getElem?_append_left (by simpa using hi), List.getElem?_replicate] at e2'
      split at e2' <;> cases e2'
    · rw [List.getElem?_append_right (by simpa using hi), List.length_replicate, List.getElem?_map] at e2'
      cases ej : cs[i - nt]? with
      | none => rw [ej] at e2'; cases e2'
      | some j =>
        rw [ej] at e2'
        have e2'' : (σ[j]?).getD none = some v := Option.some.inj e2'
        have hσ : σ[j]? = some (some v) := by
          cases q : σ[j]? with
          | none => rw [q] at e2''; cases e2''
          | some z => rw [q] at e2''; exact congrArg some e2''
        obtain ⟨y, y1, y2, y3, y4, y5⟩ := L.cap _ _ ej
        have hxy : x = y := by
          have e1' : N'[i]? = some x := e1
          rw [show nt + (i - nt) = i by omega, e1'] at y1
          exact Option.some.inj y1
        subst hxy
        obtain ⟨m, hn, hl⟩ := I4.loc
        obtain ⟨u, r, l⟩ := hl j x v y2 hσ y4
        refine ⟨u, r, .inr ⟨relabel_free (env := X.env) y3, ?_⟩⟩
        rcases l with ⟨l, _⟩ | ⟨_, c, hc, hcell⟩
        · exact absurd l y5
        · refine ⟨c, ?_, hcell⟩
          obtain ⟨d, hd⟩ := Option.isSome_iff_exists.mp (chas x (PySem.mem_of_lookup y3))
          have := csub x d hd
          rw [hc] at this
          cases this
          exact hd
  · exact I4.cell x c (csub x c e)
  · show (lcS nt cs σ).length = N'.length
    unfold lcS
    rw [L.len]; simp
theorem lc_leave {σ2 : St} {H2 : Hp} (I : Inv X pins σ H s) (hf : ∀ b ∈ fp, FpOk X pins H b) (J : Inv (lcCx X N' scope s H C fp) [] σ2 H2 s') : Inv X pins σ H2 s' :=
  I.call' (ch := fp) J.os J.base J.hok J.bare fun b hb => by
    obtain ⟨f0, f1, f2, f3, f4, f5⟩ := hf b hb
    exact ⟨f3, f1, f4, f5⟩
end

def PIfs (X : Cx) (ifs : List Expr) (t : TT) : Prop :=
  ∀ (pins : List (Addr × Obj)) (s : Shared) (σ : St) (H : Hp) (Q : Bool → Hp → Prop), Inv X pins σ H s → t σ H Q →
    wpAny (model X.prog X.w) X.A (forIn ifs true fun c r => if r = true then do let ok ← isTrue c X.env (eval c X.env); pure (ForInStep.yield ok) else pure (ForInStep.yield r)) (TP X pins σ Q) X.xe s
def tTrue : TT := fun _ H Q => Q true H
theorem pifs_nil {X : Cx} : PIfs X [] tTrue := fun _ _ _ H _ I h => wpAny_tests_nil ⟨H, I, h⟩
def LCG (nt : Nat) (cs : List Nat) (g : TG) (tt : TT) (te : TE) (σ : St) (Q : VK) (J : It) (H1 : Hp) : Prop := ∀ l, H1 l = none → ∃ W : Nat → Nat → Hp → Prop, (∃ m, W 0 m (upd H1 l (.lst []))) ∧ ∀ i m H2, W i m H2 →
  (J.stop i H2 ∧ Q (.ref l) H2) ∨ (J.go i H2 ∧ ∃ N : Hp → Prop, (∀ H', N H' → ∃ m', m' < m ∧ W (i + 1) m' H') ∧ ∀ x H3, J.yld i H2 x H3 → g x (lcS nt cs σ) H3 fun σ2 H4 =>
    (σ2.length = nt + cs.length ∧ σ2.drop nt = (lcS nt cs σ).drop nt) ∧ tt σ2 H4 fun b H5 => if b = true then te σ2 H5 fun y H6 => ∃ xs, H6 l = some (.lst xs) ∧ xs.length < sizeLine ∧ N (upd H6 l (.lst (xs ++ [y]))) else N H5)
def tLC (nt : Nat) (cs : List Nat) (wi : TI) (g : TG) (tt : TT) (te : TE) : TE := fun σ H Q => wi σ H fun J H1 => LCG nt cs g tt te σ Q J H1

theorem lc_turn {prog : Program} {w : World} {A : Around} {R : Result → Shared → Prop} {s : Shared} {elt target iter : Expr} {ifs : List Expr} {scope : Scope} {pos : Pos} {it acc : Value} {env : Env} (I : Nat → Shared → Prop)
    (turn : ∀ n s, I n s → wpAny (model prog w) A (pyNext it) (fun r s₁ => match r with
      | none => R (.ok .next) s₁
      | some v => wpAny (model prog w) A (letOwnedTupleGo target it v) (fun _ s₁' => wpAny (model prog w) A (assign target env v) (fun _ s₂ =>
          wpAny (model prog w) A (forIn ifs true fun c r => if r = true then do let ok ← isTrue c env (eval c env); pure (ForInStep.yield ok) else pure (ForInStep.yield r)) (fun ok s₃ =>
            if ok = true then wpAny (model prog w) A (eval elt env) (fun x s₄ =>
              wpAny (model prog w) A (call (.builtin "list.append") [acc, x]) (fun _ s₅ => ∃ m, m < n ∧ I m s₅) (fun _ _ => False) s₄) (fun _ _ => False) s₃
            else ∃ m, m < n ∧ I m s₃) (fun _ _ => False) s₂) (fun _ _ => False) s₁') (fun _ _ => False) s₁) (fun _ _ => False) s)
    (n : Nat) (h : I n s) : codeAny (model prog w) A (.compLoop (.ListComp elt [⟨target, iter, ifs, 0⟩] scope pos) 0 it acc env) R s := by
  refine codeAny_loop rfl I (fun n s hI => ?_) n h
  show wpAny _ A ((compTurn (.ListComp elt [⟨target, iter, ifs, 0⟩] scope pos) 0 it acc env).onRaise (fun x => do noteFrame x env; theTreesLotGoes x)) _ _ s
  refine wpAny_noted ?_
  rw [compTurn_list]
  refine wpAny_bind (wpAny_standAt (wpAny_bind (wpAny_mono (turn n s hI) (fun r s₁ h₁ => ?_) fun _ _ h' => h'.elim)))
  cases r with
  | none => exact wpAny_pure h₁
  | some v =>
    refine wpAny_bind (wpAny_mono h₁ (fun _ s₁' h₁' => ?_) fun _ _ h' => h'.elim)
    refine wpAny_bind (wpAny_mono h₁' (fun _ s₂ h₂ => wpAny_bind (wpAny_mono h₂ (fun ok s₃ h₃ => ?_) fun _ _ h' => h'.elim)) fun _ _ h' => h'.elim)
    cases ok with
    | false => exact wpAny_pure ⟨rfl, h₃⟩
    | true =>
      exact wpAny_bind (wpAny_bind (wpAny_mono h₃ (fun x s₄ h₄ => wpAny_bind (wpAny_mono h₄ (fun _ s₅ h₅ => wpAny_pure (wpAny_pure ⟨rfl, h₅⟩)) fun _ _ h' => h'.elim)) fun _ _ h' => h'.elim))

section
variable {X : Cx} {elt target iter : Expr} {ifs : List Expr} {scope : Scope} {pos : Pos} {N' : List Str} {nt : Nat} {cs : List Nat} {wi : TI} {g : TG} {tt : TT} {te : TE}
theorem lc_core {use : Option (Value → Sem Unit)} {QQ : Value → Shared → Prop} {p2 : Pos} (hc : X.calm = true) (L : LcOk X scope N' nt cs) (hi : PI X target iter wi)
    (hg : ∀ s H C fp, PG (lcCx X N' scope s H C fp) target g) (ht : ∀ s H C fp, PIfs (lcCx X N' scope s H C fp) ifs tt) (he : ∀ s H C fp, PE (lcCx X N' scope s H C fp) elt te)
    {pins : List (Addr × Obj)} {s : Shared} {σ : St} {H : Hp} {Q : VK} (I : Inv X pins σ H s) (h : tLC nt cs wi g tt te σ H Q)
    (fin : ∀ (l : Addr) (H' : Hp) (s' : Shared) (C : Addr), Inv X pins σ H' s' → FpOk X pins H' C → (∃ m, s'.heap.Ns C m) → Q (.ref l) H' → compPost (model X.prog X.w) X.A X.xe use QQ (.ref l) C (.ok .next) s')
    (hs : ∀ x, foldedSetIterable iter X.env x = pure x := by intro _; rfl) :
    wpAny (model X.prog X.w) X.A (comprehension (.ListComp elt [⟨target, iter, ifs, 0⟩] scope pos) scope X.env p2 (newList []) false (eval iter X.env) use) QQ X.xe s := by
  have hcl : closureFor scope X.env = pure (clos X.env.cells scope.names []) := closure_eq fun x hx => by
    obtain ⟨c, e⟩ := I.ok.has x (L.fr x hx)
    rw [e]; rfl
  refine wpAny_comprehension_free (env := X.env) rfl hs hcl L.kind L.loc (thn (hi pins s σ H _ I h) fun v s1 h1 => thn h1 fun itv s2 h2 => ?_)
  obtain ⟨it, fp, tn, J, H1, e, I2, T, st2, f2, R⟩ := h2
  subst e
  refine wpAny_newObj_type ?_
  have hv : Vals [] ([] : List Value) := .nil
  have I3 := I2.lnew (t' := s2.toks) hv (Nat.zero_le _)
  have hfr : H1 s2.heap.objs.size = none := I2.fresh
  have ne3 : ∀ b ∈ fp, b ≠ s2.heap.objs.size := fun b hb z => by
    obtain ⟨o, e, _⟩ := T.obj _ _ st2 b hb
    have := Heap.lt_size e
    rw [z] at this
    exact Nat.lt_irrefl _ this
  have f3 : ∀ b ∈ fp, FpOk X pins (upd H1 s2.heap.objs.size (.lst [])) b := fun b hb => ⟨by rw [upd_ne (ne3 b hb)]; exact (f2 b hb).1, (f2 b hb).2⟩
  obtain ⟨W, ⟨m0, w0⟩, turn⟩ := R _ hfr
  refine wpAny_newFunctionEnv L.nocell (by intro y hy; simp at hy) (fun h4 hns hsb => ?_) L.kind
  dsimp only at hns hsb ⊢
  generalize hH3 : s2.heap.push { cls := .type "list", dict := none, data := .seq ([] : List Value).toArray } = h3 at hns hsb I3 ⊢
  have hsz3 : h3.objs.size = s2.heap.objs.size + 1 := by rw [← hH3, Heap.size_push]
  have up4 : ∀ b u, h3.get? b = some u → h4.get? b = some u := fun b u e => hsb.extBut b u (Nat.ne_of_lt (Heap.lt_size e)) (Heap.get?_push_of_some _ e)
  have fpo : ∀ b ∈ fp, b < h3.objs.size := fun b hb => by
    obtain ⟨o, e, _⟩ := T.obj _ _ st2 b hb
    exact Nat.lt_of_lt_of_le (Heap.lt_size e) (by rw [hsz3]; exact Nat.le_succ _)
  have up3 : ∀ b u, s2.heap.get? b = some u → h3.get? b = some u := fun b u e => hH3 ▸ Heap.get?_push_of_some _ e
  have J4 : Inv (lcCx X N' scope { s2 with heap := h3 } (upd H1 s2.heap.objs.size (.lst [])) h3.objs.size fp) [] (lcS nt cs σ) (upd H1 s2.heap.objs.size (.lst [])) { s2 with heap := h4, toks := s2.toks + ([] : List (Str × Value)).length } :=
    lc_enter (t' := s2.toks + ([] : List (Str × Value)).length) I3 L f3 (Nat.le_refl _) up4 (by simpa using hns) fpo
  have st4 : tn 0 h4 := T.keep _ _ _ st2 fun b hb o e => up4 b o (up3 b o e)
  generalize hs3 : ({ s2 with heap := h3 } : Shared) = s3 at I3 J4
  generalize hX' : lcCx X N' scope s3 (upd H1 s2.heap.objs.size (.lst [])) h3.objs.size fp = X' at J4
  have hg' : PG X' target g := hX' ▸ hg _ _ _ _
  have ht' : PIfs X' ifs tt := hX' ▸ ht _ _ _ _
  have he' : PE X' elt te := hX' ▸ he _ _ _ _
  have stat : ∀ {H' : Hp}, (∀ b ∈ fp, H' b = none) → ∀ b ∈ fp, FpOk X' [] H' b := fun hn b hb => by
    subst hX'
    refine ⟨hn b hb, Nat.ne_of_lt (fpo b hb), J4.ok.exfs b hb, .inl hb, (J4.ok.exf b hb).2, fun p hp => absurd (show p ∈ ([] : List (Addr × Obj)) from hp) (by simp)⟩
  have loop : codeAny (model X.prog X.w) X.A (.compLoop (.ListComp elt [⟨target, iter, ifs, 0⟩] scope pos) 0 (.ref it) (.ref s2.heap.objs.size) (compEnvC scope (clos X.env.cells scope.names []) h3.objs.size X.env))
      (compPost (model X.prog X.w) X.A X.xe use QQ (.ref s2.heap.objs.size) h3.objs.size) { s2 with heap := h4, toks := s2.toks + ([] : List (Str × Value)).length } := by
    have eA : X'.A = X.A := by subst hX'; rfl
    have eP : X'.prog = X.prog := by subst hX'; rfl
    have eW : X'.w = X.w := by subst hX'; rfl
    have eK : X'.K = X.K := by subst hX'; rfl
    have eC : X'.calm = true := by subst hX'; exact hc
    have eE : X'.env = compEnvC scope (clos X.env.cells scope.names []) h3.objs.size X.env := by subst hX'; rfl
    have eX : X'.xe = fun _ _ => False := by subst hX'; rfl
    refine lc_turn (fun n s' => ∃ i H', Inv X' [] (lcS nt cs σ) H' s' ∧ tn i s'.heap ∧ (∀ b ∈ fp, H' b = none) ∧ W i n H') ?_ m0 ⟨0, _, J4, st4, fun b hb => (f3 b hb).1, w0⟩
    rintro n s5 ⟨i, H5, J5, st5, fr5, w5⟩
    rcases turn i n H5 w5 with ⟨stop, qn⟩ | ⟨go, N, hN, step⟩
    · have d := T.done X' eP eW eK eC i [] s5 (lcS nt cs σ) H5 (fun _ _ => False) J5 (stat fr5) st5 stop
      rw [eA] at d
      refine thn d fun r s6 ⟨hr, J6⟩ => ?_
      subst hr
      have I6 : Inv X pins σ H5 s6 := by subst hX'; subst hs3; exact lc_leave I3 f3 J6
      refine fin _ H5 s6 h3.objs.size I6 ?_ ?_ qn
      · have hn : H5 h3.objs.size = none := by subst hX'; exact J6.free
        subst hs3
        exact I3.fpOk (Nat.le_refl _) hn
      · obtain ⟨m, hm, _⟩ := J6.loc
        subst hX'
        exact ⟨m, hm⟩
    · have d := T.item X' eP eW eK eC i [] s5 (lcS nt cs σ) H5 (fun _ _ => False) J5 (stat fr5) st5 go
      rw [eA] at d
      refine thn d fun r s6 ⟨u, hr, h6⟩ => ?_
      subst hr
      refine thn h6 fun _ s7 ⟨x, H7, J7, r7, y7, st7, fr7⟩ => ?_
      have J7' := J7.pinned (stat fr7) (T.obj _ _ st7)
      have a := hg' _ s7 (lcS nt cs σ) H7 x u _ J7' r7 (step x H7 y7)
      rw [eA, eP, eW, eE, eX] at a
      refine thn a fun _ s8 ⟨σ8, H8, J8, ⟨e8, d8⟩, q8⟩ => ?_
      have b := ht' _ s8 σ8 H8 _ J8 q8
      rw [eA, eP, eW, eE, eX] at b
      have again : ∀ {s9 : Shared} {H9 : Hp}, Inv X' ([] ++ pinsAt fp s7.heap) σ8 H9 s9 → N H9 → ∃ m, m < n ∧ ∃ i H', Inv X' [] (lcS nt cs σ) H' s9 ∧ tn i s9.heap ∧ (∀ b ∈ fp, H' b = none) ∧ W i m H' := fun {s9 H9} J9 n9 => by
        obtain ⟨m', hm, w9⟩ := hN H9 n9
        refine ⟨m', hm, i + 1, H9, ?_, T.keep _ _ _ st7 fun b hb o e => (J9.pin (b, o) (List.mem_append_right _ (List.mem_append_right _ (mem_pinsAt hb e)))).1, fun b hb => ?_, w9⟩
        · refine J9.unpinned.weak ?_ fun j v ej => ?_
          · rw [e8]; unfold lcS; simp
          · by_cases hj : j < nt
            · unfold lcS at ej
              rw [List.getElem?_append_left (by simpa using hj), List.getElem?_replicate] at ej
              split at ej <;> cases ej
            · have z := congrArg (fun l : St => l[j - nt]?) d8
              simp only [List.getElem?_drop] at z
              rw [show nt + (j - nt) = j by omega] at z
              rw [z]; exact ej
        · obtain ⟨o, e, _⟩ := T.obj _ _ st7 b hb
          exact (J9.pin (b, o) (List.mem_append_right _ (List.mem_append_right _ (mem_pinsAt hb e)))).2.1
      refine thn b fun ok s9 ⟨H9, J9, q9⟩ => ?_
      cases ok with
      | false =>
        rw [if_neg Bool.false_ne_true] at q9 ⊢
        exact again J9 q9
      | true =>
        rw [if_pos rfl] at q9 ⊢
        have c := he' _ s9 σ8 H9 _ J9 q9
        rw [eA, eP, eW, eE, eX] at c
        refine thn c fun y sA ⟨vy, HA, JA, ry, xs, hl, hz, nA⟩ => ?_
        have ap := mt_append (X := X') _ sA σ8 HA (.ref s2.heap.objs.size) [vy] (.ref s2.heap.objs.size) [y] (fun _ H' => N H') JA rfl (.cons ry .nil) ⟨_, xs, vy, rfl, rfl, hl, hz, nA⟩
        rw [eA, eP, eW, eX] at ap
        exact thn ap fun _ sB ⟨_, HB, JB, _, nB⟩ => again JB nB
  exact codeAny_compStart_list loop (T.self X.A 0 _ _ _ st4 loop)

theorem pe_lc (hc : X.calm = true) (L : LcOk X scope N' nt cs) (hi : PI X target iter wi)
    (hg : ∀ s H C fp, PG (lcCx X N' scope s H C fp) target g) (ht : ∀ s H C fp, PIfs (lcCx X N' scope s H C fp) ifs tt) (he : ∀ s H C fp, PE (lcCx X N' scope s H C fp) elt te)
    (hs : ∀ x, foldedSetIterable iter X.env x = pure x := by intro _; rfl) : PE X (.ListComp elt [⟨target, iter, ifs, 0⟩] scope pos) (tLC nt cs wi g tt te) := by
  intro pins s σ H Q I h
  rw [eval_ListComp]
  refine lc_core (use := none) hc L hi hg ht he I h (fun l H' s' C I' f ⟨m, hm⟩ q => ⟨m, hm, fun h' hs' => ?_⟩) hs
  obtain ⟨f0, f1, f2, f3, f4, f5⟩ := f
  exact ⟨.ref l, H', I'.turned (t' := s'.toks) (fun b o hb e => hs'.extBut b o hb e) f0 f1 f3 f4 f5, rfl, q⟩
end
end L2

namespace L2
open PySem PySem.Spec PyProof.Rows
section
variable {X : Cx} {a b : Expr} {ta tb : TE} {pos : Pos}
theorem call_isi_int_int : CallR X (.builtin "isinstance") (fun xs H Q => ∃ x, xs = [.int x, .ty "int"] ∧ Q (.bl true) H) := by
  intro pins s σ H xs us Q I r h
  obtain ⟨x, rfl, q⟩ := h
  obtain ⟨u, v, rfl, ⟨t, rfl⟩, rfl⟩ := vals2 r
  exact IsiPair.int_int ⟨.bl true, H, I, rfl, q⟩
theorem call_isi_int_bool : CallR X (.builtin "isinstance") (fun xs H Q => ∃ x, xs = [.int x, .ty "bool"] ∧ Q (.bl false) H) := by
  intro pins s σ H xs us Q I r h
  obtain ⟨x, rfl, q⟩ := h
  obtain ⟨u, v, rfl, ⟨t, rfl⟩, rfl⟩ := vals2 r
  exact IsiPair.int_bool ⟨.bl false, H, I.tok _, rfl, q⟩
end
end L2
namespace L2
open PySem PySem.Spec PyProof.Rows
theorem SqL.same {K : PySem.W.Frag} {H H' : Hp} {a : Addr} {xs : List V} (e : Same H H') (h : SqL K H a xs) : SqL K H' a xs := e.seq h
theorem SqT.same {K : PySem.W.Frag} {H H' : Hp} {a : Addr} {xs : List V} (e : Same H H') (h : SqT K H a xs) : SqT K H' a xs := by
  rcases h with (h | ⟨o, h⟩) | h
  · exact .inl (.inl (e _ _ h))
  · exact .inl (.inr ⟨o, e _ _ h⟩)
  · exact .inr h
theorem Same.upd {H : Hp} {l : Addr} {o : HO} (h : H l = none) : Same H (upd H l o) := fun b u e => by rw [upd_ne (ne_of_none e h)]; exact e
end L2
namespace L2
open PySem
theorem atI_neg1 {α : Type} {xs : List α} {v : α} (h : xs.getLast? = some v) : atI xs (-1) = some v := by
  obtain ⟨ys, rfl⟩ := List.getLast?_eq_some_iff.mp h
  exact atI_last ys v
end L2
namespace L2
open PySem
end L2
namespace L2
open PySem
end L2

namespace L2
open PySem PySem.Spec PyProof.Rows
end L2

namespace L2
open PySem PySem.Spec PyProof.Rows
section
variable {X : Cx} {e1 e2 e3 : Expr} {ta : TA} {p pos : Pos} {tg : Expr}
theorem vals3 {x y z : V} {us : List Value} (r : Vals [x, y, z] us) : ∃ u v w', us = [u, v, w'] ∧ RelV x u ∧ RelV y v ∧ RelV z w' := by
  cases r with
  | cons r1 r2 =>
    obtain ⟨v, w', rfl, a, b⟩ := vals2 r2
    exact ⟨_, v, w', rfl, r1, a, b⟩
end
end L2
namespace L2
open PySem PySem.Spec PyProof.Rows
end L2
namespace L2
open PySem
end L2

namespace L2
open PySem PySem.Spec PyProof.Rows
structure ZipAp (z TI TO i1 i2 : Addr) (fp1 fp2 : List Addr) : Prop where
  TIz : TI ≠ z
  TOz : TO ≠ z
  i1z : i1 ≠ z
  i2z : i2 ≠ z
  TITO : TI ≠ TO
  TIi1 : TI ≠ i1
  TIi2 : TI ≠ i2
  TOi1 : TO ≠ i1
  TOi2 : TO ≠ i2
  i12 : i1 ≠ i2
  m1 : i1 ∈ fp1
  m2 : i2 ∈ fp2
  f1 : ∀ b ∈ fp1, b ≠ z ∧ b ≠ TO ∧ b ≠ i2
  f2 : ∀ b ∈ fp2, b ≠ z ∧ b ≠ TO ∧ b ≠ i1
end L2

namespace L2
open PySem PySem.Spec PyProof.Rows
end L2

namespace L2
open PySem
end L2

namespace L2
open PySem PySem.Spec PyProof.Rows
inductive D where
  | non | bl (b : Bool) | int (i : Int) | str (l : List Nat) | lst (xs : List D) | tup (xs : List D) | dct (ks vs : List D) | dctT (ks vs : List D) | ins (C : Addr) (ns : List Str) (vs : List D)
instance : Inhabited D := ⟨.non⟩
mutual
def D.beq : D → D → Bool
  | .non, .non => true
  | .bl a, .bl b => a == b
  | .int a, .int b => a == b
  | .str a, .str b => a == b
  | .lst a, .lst b => D.beqs a b
  | .tup a, .tup b => D.beqs a b
  | .dct a b, .dct c d => D.beqs a c && D.beqs b d
  | .dctT a b, .dctT c d => D.beqs a c && D.beqs b d
  | .ins C n a, .ins E m b => (decide (C = E) && decide (n = m)) && D.beqs a b
  | _, _ => false
def D.beqs : List D → List D → Bool
  | [], [] => true
  | a :: x, b :: y => a.beq b && D.beqs x y
  | _, _ => false
end
mutual
theorem D.beq_iff : ∀ a b : D, a.beq b = true ↔ a = b
  | .non, b => by cases b <;> simp [D.beq]
  | .bl _, b => by cases b <;> simp [D.beq]
  | .int _, b => by cases b <;> simp [D.beq]
  | .str _, b => by cases b <;> simp [D.beq]
  | .lst a, b => by cases b <;> simp [D.beq, D.beqs_iff a]
  | .tup a, b => by cases b <;> simp [D.beq, D.beqs_iff a]
  | .dct a b, c => by cases c <;> simp [D.beq, D.beqs_iff a, D.beqs_iff b]
  | .dctT a b, c => by cases c <;> simp [D.beq, D.beqs_iff a, D.beqs_iff b]
  | .ins C n a, c => by cases c <;> simp [D.beq, D.beqs_iff a, and_assoc]
theorem D.beqs_iff : ∀ a b : List D, D.beqs a b = true ↔ a = b
  | [], b => by cases b <;> simp [D.beqs]
  | a :: x, b => by cases b <;> simp [D.beqs, D.beq_iff a, D.beqs_iff x]
end
instance : DecidableEq D := fun a b => decidable_of_iff _ (D.beq_iff a b)
mutual
def D.dep : D → Nat
  | .lst a => D.deps a + 1
  | .tup a => D.deps a + 1
  | _ => 0
def D.deps : List D → Nat
  | [] => 0
  | a :: x => max a.dep (D.deps x)
end
mutual
def D.nb : D → Bool
  | .bl _ => false
  | .dct _ _ => false
  | .dctT _ _ => false
  | .ins _ _ _ => false
  | .lst a => D.nbs a
  | .tup a => D.nbs a
  | _ => true
def D.nbs : List D → Bool
  | [] => true
  | a :: x => a.nb && D.nbs x
end

section
variable (K : PySem.W.Frag) (H : Hp)
mutual
def Rep : D → V → Prop
  | .non, v => v = .non
  | .bl b, v => v = .bl b
  | .int i, v => v = .int i
  | .str l, v => v = .str (T l) ∧ ∀ c ∈ l, c < 128
  | .lst ds, v => ∃ p xs, v = .ref p ∧ SqL K H p xs ∧ Reps ds xs
  | .tup ds, v => ∃ p xs, v = .ref p ∧ SqT K H p xs ∧ Reps ds xs
  | .dct ks vs, v => ∃ p kv, v = .ref p ∧ H p = some (.dK kv) ∧ Reps ks (kv.map fun q => kV q.1) ∧ Reps vs (kv.map fun q => q.2)
  | .dctT ks vs, v => ∃ p kv, v = .ref p ∧ H p = some (.dT kv) ∧ TKs ks (kv.map fun q => q.1) ∧ Reps vs (kv.map fun q => q.2)
  | .ins C ns vs, v => ∃ x dx fs, v = .ref x ∧ H x = some (.ins C dx fs) ∧ H dx = some (.own x) ∧ fs.map (fun q => q.1) = ns ∧ Reps vs (fs.map fun q => q.2)
def TK : D → List Key → Prop
  | .tup es, k => Reps es (k.map kV)
  | _, _ => False
def TKs : List D → List (List Key) → Prop
  | [], ks => ks = []
  | d :: ds, ks => ∃ k r, ks = k :: r ∧ TK d k ∧ TKs ds r
def Reps : List D → List V → Prop
  | [], xs => xs = []
  | d :: ds, xs => ∃ x r, xs = x :: r ∧ Rep d x ∧ Reps ds r
end
end
section
variable {K : PySem.W.Frag} {H H' : Hp}
mutual
theorem Rep.mono (s : Same H H') : ∀ {d : D} {v : V}, Rep K H d v → Rep K H' d v
  | .non, _, h => by simpa [Rep] using h
  | .bl _, _, h => by simpa [Rep] using h
  | .int _, _, h => by simpa [Rep] using h
  | .str _, _, h => by simpa [Rep] using h
  | .lst ds, _, h => by
    rw [Rep] at h ⊢
    obtain ⟨p, xs, e, q, r⟩ := h
    exact ⟨p, xs, e, SqL.same s q, Reps.mono s r⟩
  | .tup ds, _, h => by
    rw [Rep] at h ⊢
    obtain ⟨p, xs, e, q, r⟩ := h
    exact ⟨p, xs, e, SqT.same s q, Reps.mono s r⟩
  | .dct ks vs, _, h => by
    rw [Rep] at h ⊢
    obtain ⟨p, kv, e, q, r1, r2⟩ := h
    exact ⟨p, kv, e, s _ _ q, Reps.mono s r1, Reps.mono s r2⟩
  | .dctT ks vs, _, h => by
    rw [Rep] at h ⊢
    obtain ⟨p, kv, e, q, r1, r2⟩ := h
    exact ⟨p, kv, e, s _ _ q, TKs.mono s r1, Reps.mono s r2⟩
  | .ins C ns vs, _, h => by
    rw [Rep] at h ⊢
    obtain ⟨x, dx, fs, e, q1, q2, hn, r⟩ := h
    exact ⟨x, dx, fs, e, s _ _ q1, s _ _ q2, hn, Reps.mono s r⟩
theorem TK.mono (s : Same H H') : ∀ {d : D} {k : List Key}, TK K H d k → TK K H' d k
  | .tup es, _, h => by rw [TK] at h ⊢; exact Reps.mono s h
  | .non, _, h => by simp [TK] at h
  | .bl _, _, h => by simp [TK] at h
  | .int _, _, h => by simp [TK] at h
  | .str _, _, h => by simp [TK] at h
  | .lst _, _, h => by simp [TK] at h
  | .dct _ _, _, h => by simp [TK] at h
  | .dctT _ _, _, h => by simp [TK] at h
  | .ins _ _ _, _, h => by simp [TK] at h
theorem TKs.mono (s : Same H H') : ∀ {ds : List D} {ks : List (List Key)}, TKs K H ds ks → TKs K H' ds ks
  | [], _, h => by rw [TKs] at h ⊢; exact h
  | d :: ds, _, h => by
    rw [TKs] at h ⊢
    obtain ⟨k, r, e, a, b⟩ := h
    exact ⟨k, r, e, TK.mono s a, TKs.mono s b⟩
theorem Reps.mono (s : Same H H') : ∀ {ds : List D} {xs : List V}, Reps K H ds xs → Reps K H' ds xs
  | [], _, h => by simpa [Reps] using h
  | d :: ds, _, h => by
    rw [Reps] at h ⊢
    obtain ⟨x, r, e, a, b⟩ := h
    exact ⟨x, r, e, Rep.mono s a, Reps.mono s b⟩
end
theorem Reps.nil : Reps K H [] [] := by rw [Reps]
theorem Reps.cons {d : D} {ds : List D} {x : V} {xs : List V} (a : Rep K H d x) (b : Reps K H ds xs) : Reps K H (d :: ds) (x :: xs) := by rw [Reps]; exact ⟨x, xs, rfl, a, b⟩
theorem Reps.length : ∀ {ds : List D} {xs : List V}, Reps K H ds xs → ds.length = xs.length
  | [], _, h => by rw [Reps] at h; subst h; rfl
  | d :: ds, _, h => by
    rw [Reps] at h
    obtain ⟨x, r, rfl, _, b⟩ := h
    simp [b.length]
theorem Reps.get : ∀ {ds : List D} {xs : List V} {i : Nat} {x : V}, Reps K H ds xs → xs[i]? = some x → ∃ d, ds[i]? = some d ∧ Rep K H d x
  | [], _, _, _, h, e => by rw [Reps] at h; subst h; simp at e
  | d :: ds, _, 0, _, h, e => by
    rw [Reps] at h
    obtain ⟨y, r, rfl, a, _⟩ := h
    cases e
    exact ⟨d, rfl, a⟩
  | d :: ds, _, i + 1, _, h, e => by
    rw [Reps] at h
    obtain ⟨y, r, rfl, _, b⟩ := h
    exact Reps.get (i := i) b e
theorem Reps.get' : ∀ {ds : List D} {xs : List V} {i : Nat} {d : D}, Reps K H ds xs → ds[i]? = some d → ∃ x, xs[i]? = some x ∧ Rep K H d x := fun {ds xs i d} h e => by
  have hl := h.length
  have hi := (List.getElem?_eq_some_iff.mp e).1
  obtain ⟨d', e', r⟩ := h.get (i := i) (x := xs[i]'(by omega)) (List.getElem?_eq_getElem _)
  rw [e] at e'; cases e'
  exact ⟨_, List.getElem?_eq_getElem _, r⟩
theorem Reps.append : ∀ {ds es : List D} {xs ys : List V}, Reps K H ds xs → Reps K H es ys → Reps K H (ds ++ es) (xs ++ ys)
  | [], _, _, _, h, h2 => by rw [Reps] at h; subst h; exact h2
  | d :: ds, _, _, _, h, h2 => by
    rw [Reps] at h
    obtain ⟨y, r, rfl, a, b⟩ := h
    exact Reps.cons a (Reps.append b h2)
theorem Reps.snoc {ds : List D} {xs : List V} {d : D} {x : V} (h : Reps K H ds xs) (a : Rep K H d x) : Reps K H (ds ++ [d]) (xs ++ [x]) := h.append (.cons a .nil)
theorem Reps.drop : ∀ (n : Nat) {ds : List D} {xs : List V}, Reps K H ds xs → Reps K H (ds.drop n) (xs.drop n)
  | 0, _, _, h => h
  | n + 1, [], _, h => by rw [Reps] at h; subst h; exact Reps.nil
  | n + 1, d :: ds, _, h => by
    rw [Reps] at h
    obtain ⟨y, r, rfl, _, b⟩ := h
    exact Reps.drop n b
theorem Reps.take : ∀ (n : Nat) {ds : List D} {xs : List V}, Reps K H ds xs → Reps K H (ds.take n) (xs.take n)
  | 0, _, _, h => Reps.nil
  | n + 1, [], _, h => by rw [Reps] at h; subst h; exact Reps.nil
  | n + 1, d :: ds, _, h => by
    rw [Reps] at h
    obtain ⟨y, r, rfl, a, b⟩ := h
    exact Reps.cons a (Reps.take n b)
theorem Rep.lst {ds : List D} {p : Addr} {xs : List V} (q : SqL K H p xs) (r : Reps K H ds xs) : Rep K H (.lst ds) (.ref p) := by rw [Rep]; exact ⟨p, xs, rfl, q, r⟩
theorem Rep.tup {ds : List D} {p : Addr} {xs : List V} (q : SqT K H p xs) (r : Reps K H ds xs) : Rep K H (.tup ds) (.ref p) := by rw [Rep]; exact ⟨p, xs, rfl, q, r⟩
theorem Rep.int {i : Int} : Rep K H (.int i) (.int i) := by rw [Rep]
theorem Rep.bl {b : Bool} : Rep K H (.bl b) (.bl b) := by rw [Rep]
theorem Rep.str {l : List Nat} (h : ∀ c ∈ l, c < 128) : Rep K H (.str l) (.str (T l)) := by rw [Rep]; exact ⟨rfl, h⟩
theorem Rep.non : Rep K H .non .non := by rw [Rep]
theorem Rep.of_int {i : Int} {v : V} (h : Rep K H (.int i) v) : v = .int i := by rw [Rep] at h; exact h
theorem Rep.of_bl {b : Bool} {v : V} (h : Rep K H (.bl b) v) : v = .bl b := by rw [Rep] at h; exact h
theorem Rep.of_str {l : List Nat} {v : V} (h : Rep K H (.str l) v) : v = .str (T l) := by rw [Rep] at h; exact h.1
theorem Rep.asc {l : List Nat} {v : V} (h : Rep K H (.str l) v) : ∀ c ∈ l, c < 128 := by rw [Rep] at h; exact h.2
theorem Rep.of_non {v : V} (h : Rep K H .non v) : v = .non := by rw [Rep] at h; exact h
theorem Rep.of_lst {ds : List D} {v : V} (h : Rep K H (.lst ds) v) : ∃ p xs, v = .ref p ∧ SqL K H p xs ∧ Reps K H ds xs := by rw [Rep] at h; exact h
theorem Rep.of_tup {ds : List D} {v : V} (h : Rep K H (.tup ds) v) : ∃ p xs, v = .ref p ∧ SqT K H p xs ∧ Reps K H ds xs := by rw [Rep] at h; exact h
end

structure Ext (G H₀ F H : Hp) : Prop where
  gf : Same G F
  fh : Same F H
  hh : Same H₀ H
  no : ∀ b o, H₀ b = some o → F b = G b
theorem Ext.refl {G H : Hp} (s : Same G H) : Ext G H G H := ⟨Same.refl _, s, Same.refl _, fun _ _ _ => rfl⟩
theorem Ext.trans {G H F1 H1 F2 H2 : Hp} (a : Ext G H F1 H1) (b : Ext F1 H1 F2 H2) : Ext G H F2 H2 :=
  ⟨a.gf.trans b.gf, b.fh, a.hh.trans b.hh, fun c o e => (b.no c o (a.hh c o e)).trans (a.no c o e)⟩
theorem Ext.newF {G H₀ F H : Hp} (x : Ext G H₀ F H) {p : Addr} {o : HO} (hp : H p = none) : Ext G H₀ (upd F p o) (upd H p o) := by
  have fp : F p = none := x.fh.free hp
  refine ⟨x.gf.trans (Same.upd fp), fun b u e => ?_, x.hh.trans (Same.upd hp), fun b u e => ?_⟩
  · by_cases hb : b = p
    · subst hb; rw [upd_same] at e ⊢; exact e
    · rw [upd_ne hb] at e ⊢; exact x.fh b u e
  · have hb : b ≠ p := fun z => by subst z; have := x.hh b u e; rw [hp] at this; cases this
    rw [upd_ne hb]; exact x.no b u e
theorem Ext.newO {G H₀ F H : Hp} (x : Ext G H₀ F H) {p : Addr} {o : HO} (hp : H p = none) : Ext G H₀ F (upd H p o) :=
  ⟨x.gf, x.fh.trans (Same.upd hp), x.hh.trans (Same.upd hp), x.no⟩
theorem Ext.write {G H₀ F H : Hp} (x : Ext G H₀ F H) {p : Addr} {o : HO} (fp : F p = none) (hp : H₀ p = none) : Ext G H₀ F (upd H p o) :=
  ⟨x.gf, fun b u e => by rw [upd_ne (ne_of_none e fp)]; exact x.fh b u e, fun b u e => by rw [upd_ne (ne_of_none e hp)]; exact x.hh b u e, x.no⟩
theorem Ext.freeze {G H₀ F H : Hp} (x : Ext G H₀ F H) {p : Addr} {o : HO} (fp : F p = none) (hp : H₀ p = none) (e : H p = some o) : Ext G H₀ (upd F p o) H := by
  refine ⟨x.gf.trans (Same.upd fp), fun b u q => ?_, x.hh, fun b u q => ?_⟩
  · by_cases hb : b = p
    · subst hb; rw [upd_same] at q; cases q; exact e
    · rw [upd_ne hb] at q; exact x.fh b u q
  · rw [upd_ne (ne_of_none q hp)]; exact x.no b u q

inductive Sl where
  | un | d (x : D) | o (p : Addr) (xs : List D) | oo (p : Addr) (qs : List (Addr × List D)) | g (v : V) (as : List Addr) (W : Hp → Hp → Prop)
def Sl.ads : Sl → List Addr
  | .un => [] | .d _ => [] | .o p _ => [p] | .oo p qs => p :: qs.map (·.1) | .g _ as _ => as
def OwnL (K : PySem.W.Frag) (H₀ F H : Hp) (p : Addr) (xs : List D) : Prop := H₀ p = none ∧ F p = none ∧ ∃ vs, H p = some (.lst vs) ∧ Reps K F xs vs
def Stab (as : List Addr) (W : Hp → Hp → Prop) : Prop := ∀ F1 H1 F2 H2 : Hp, Same F1 F2 → (∀ a ∈ as, H2 a = H1 a) → W F1 H1 → W F2 H2
def SlOk (K : PySem.W.Frag) (H₀ F H : Hp) (ov : Option V) : Sl → Prop
  | .un => True
  | .d x => ∃ v, ov = some v ∧ Rep K F x v
  | .o p xs => ov = some (.ref p) ∧ OwnL K H₀ F H p xs
  | .oo p qs => ov = some (.ref p) ∧ H₀ p = none ∧ F p = none ∧ H p = some (.lst (qs.map fun q => V.ref q.1)) ∧ ∀ q ∈ qs, OwnL K H₀ F H q.1 q.2
  | .g v as W => ov = some v ∧ (∀ a ∈ as, H₀ a = none ∧ F a = none ∧ ∃ o, H a = some o) ∧ W F H ∧ Stab as W
structure Sat (K : PySem.W.Frag) (G H₀ L F H : Hp) (σ : St) (ss : List Sl) : Prop where
  ext : Ext G H₀ F H
  fl : Same L F
  len : σ.length = ss.length
  ok : ∀ (i : Nat) s, ss[i]? = some s → SlOk K H₀ F H (σ.getD i none) s
  nd : ∀ (i : Nat) s, ss[i]? = some s → s.ads.Nodup
  ne : ∀ (i j : Nat) s s', i ≠ j → ss[i]? = some s → ss[j]? = some s' → ∀ p ∈ s.ads, p ∉ s'.ads
section
variable {K : PySem.W.Frag} {H₀ F H F' H' : Hp}
theorem OwnL.ext2 {p : Addr} {xs : List D} (h : OwnL K H₀ F H p xs) (e : Ext F H F' H') : OwnL K H₀ F' H' p xs := by
  obtain ⟨h0, fp, vs, hp, r⟩ := h
  exact ⟨h0, (e.no p _ hp).trans fp, vs, e.hh p _ hp, r.mono e.gf⟩
theorem SlOk.ext2 {ov : Option V} {s : Sl} (h : SlOk K H₀ F H ov s) (e : Ext F H F' H') : SlOk K H₀ F' H' ov s := by
  cases s with
  | un => trivial
  | d x => obtain ⟨v, ev, r⟩ := h; exact ⟨v, ev, r.mono e.gf⟩
  | o p xs => exact ⟨h.1, h.2.ext2 e⟩
  | oo p qs =>
    obtain ⟨ev, h0, fp, hp, hq⟩ := h
    exact ⟨ev, h0, (e.no p _ hp).trans fp, e.hh p _ hp, fun q hm => (hq q hm).ext2 e⟩
  | g v as W =>
    obtain ⟨ev, ha, hw, st⟩ := h
    refine ⟨ev, fun a hm => ?_, st _ _ _ _ e.gf (fun a hm => ?_) hw, st⟩
    · obtain ⟨h0, fa, o, ho⟩ := ha a hm
      exact ⟨h0, (e.no a _ ho).trans fa, o, e.hh a _ ho⟩
    · obtain ⟨h0, fa, o, ho⟩ := ha a hm
      rw [e.hh a _ ho, ho]
theorem OwnL.updNe {p a : Addr} {o : HO} {xs : List D} (h : OwnL K H₀ F H p xs) (hn : p ≠ a) : OwnL K H₀ F (upd H a o) p xs := by
  obtain ⟨h0, fp, vs, hp, r⟩ := h
  exact ⟨h0, fp, vs, by rw [upd_ne hn]; exact hp, r⟩
theorem SlOk.updNe {ov : Option V} {s : Sl} {a : Addr} {o : HO} (h : SlOk K H₀ F H ov s) (hn : a ∉ s.ads) : SlOk K H₀ F (upd H a o) ov s := by
  cases s with
  | un => trivial
  | d x => exact h
  | o p xs => exact ⟨h.1, h.2.updNe fun z => hn (by simp [Sl.ads, z])⟩
  | oo p qs =>
    obtain ⟨ev, h0, fp, hp, hq⟩ := h
    refine ⟨ev, h0, fp, by rw [upd_ne fun z => hn (by simp [Sl.ads, z])]; exact hp, fun q hm => (hq q hm).updNe fun z => hn ?_⟩
    rw [← z]
    exact List.mem_cons_of_mem _ (List.mem_map_of_mem hm)
  | g v as W =>
    obtain ⟨ev, ha, hw, st⟩ := h
    have hne : ∀ b ∈ as, b ≠ a := fun b hm z => hn (by rw [← z]; exact hm)
    refine ⟨ev, fun b hm => ?_, st _ _ _ _ (Same.refl _) (fun b hm => upd_ne (hne b hm)) hw, st⟩
    obtain ⟨h0, fa, x, ho⟩ := ha b hm
    exact ⟨h0, fa, x, by rw [upd_ne (hne b hm)]; exact ho⟩
theorem OwnL.frz {p a : Addr} {o : HO} {xs : List D} (h : OwnL K H₀ F H p xs) (fa : F a = none) (hn : p ≠ a) : OwnL K H₀ (upd F a o) H p xs := by
  obtain ⟨h0, fp, vs, hp, r⟩ := h
  exact ⟨h0, by rw [upd_ne hn]; exact fp, vs, hp, r.mono (Same.upd fa)⟩
theorem SlOk.frz {ov : Option V} {s : Sl} {a : Addr} {o : HO} (h : SlOk K H₀ F H ov s) (fa : F a = none) (hn : a ∉ s.ads) : SlOk K H₀ (upd F a o) H ov s := by
  cases s with
  | un => trivial
  | d x => obtain ⟨v, ev, r⟩ := h; exact ⟨v, ev, r.mono (Same.upd fa)⟩
  | o p xs => exact ⟨h.1, h.2.frz fa fun z => hn (by simp [Sl.ads, z])⟩
  | oo p qs =>
    obtain ⟨ev, h0, fp, hp, hq⟩ := h
    refine ⟨ev, h0, by rw [upd_ne fun z => hn (by simp [Sl.ads, z])]; exact fp, hp, fun q hm => (hq q hm).frz fa fun z => hn ?_⟩
    rw [← z]
    exact List.mem_cons_of_mem _ (List.mem_map_of_mem hm)
  | g v as W =>
    obtain ⟨ev, ha, hw, st⟩ := h
    have hne : ∀ b ∈ as, b ≠ a := fun b hm z => hn (by rw [← z]; exact hm)
    refine ⟨ev, fun b hm => ?_, st _ _ _ _ (Same.upd fa) (fun _ _ => rfl) hw, st⟩
    obtain ⟨h0, fb, x, ho⟩ := ha b hm
    exact ⟨h0, by rw [upd_ne (hne b hm)]; exact fb, x, ho⟩
theorem SlOk.live {ov : Option V} {s : Sl} (h : SlOk K H₀ F H ov s) {p : Addr} (hp : p ∈ s.ads) : H p ≠ none := by
  cases s with
  | un => simp [Sl.ads] at hp
  | d x => simp [Sl.ads] at hp
  | o q xs =>
    obtain ⟨_, _, _, vs, hq, _⟩ := h
    simp [Sl.ads] at hp; subst hp; rw [hq]; simp
  | oo q qs =>
    obtain ⟨ev, h0, fp, hq, hqs⟩ := h
    rcases List.mem_cons.mp hp with rfl | hp
    · rw [hq]; simp
    · obtain ⟨r, hr, rfl⟩ := List.mem_map.mp hp
      obtain ⟨_, _, vs, hv, _⟩ := hqs r hr
      rw [hv]; simp
  | g v as W =>
    obtain ⟨ev, ha, hw, st⟩ := h
    obtain ⟨_, _, x, ho⟩ := ha p hp
    rw [ho]; simp
end
end L2

namespace L2
open PySem PySem.Spec PyProof.Rows
section
variable {K : PySem.W.Frag} {G H₀ L F H F' H' : Hp} {σ : St} {ss : List Sl}
theorem Sat.ext2 (S : Sat K G H₀ L F H σ ss) (e : Ext F H F' H') : Sat K G H₀ L F' H' σ ss :=
  ⟨S.ext.trans e, S.fl.trans e.gf, S.len, fun i s hs => (S.ok i s hs).ext2 e, S.nd, S.ne⟩
theorem Sat.get (S : Sat K G H₀ L F H σ ss) {i : Nat} {s : Sl} (hs : ss[i]? = some s) (hn : s ≠ .un) : ∃ v, σ[i]? = some (some v) ∧ SlOk K H₀ F H (some v) s := by
  have hi : i < σ.length := by rw [S.len]; exact (List.getElem?_eq_some_iff.mp hs).1
  have := S.ok i s hs
  rw [List.getD_eq_getElem?_getD, List.getElem?_eq_getElem hi] at this
  simp only [Option.getD_some] at this
  cases hv : σ[i] with
  | none =>
    rw [hv] at this
    cases s with
    | un => exact absurd rfl hn
    | d x => obtain ⟨v, ev, _⟩ := this; cases ev
    | o p xs => obtain ⟨ev, _⟩ := this; cases ev
    | oo p qs => obtain ⟨ev, _⟩ := this; cases ev
    | g v as W => obtain ⟨ev, _⟩ := this; cases ev
  | some v =>
    rw [hv] at this
    exact ⟨v, by rw [List.getElem?_eq_getElem hi, hv], this⟩
theorem Sat.getD (S : Sat K G H₀ L F H σ ss) {i : Nat} {x : D} (hs : ss[i]? = some (.d x)) : ∃ v, σ[i]? = some (some v) ∧ Rep K F x v := by
  obtain ⟨v, e, w, ew, r⟩ := S.get hs (by intro z; cases z)
  cases ew
  exact ⟨v, e, r⟩
theorem Sat.getO (S : Sat K G H₀ L F H σ ss) {i : Nat} {p : Addr} {xs : List D} (hs : ss[i]? = some (.o p xs)) : σ[i]? = some (some (.ref p)) ∧ OwnL K H₀ F H p xs := by
  obtain ⟨v, e, ew, r⟩ := S.get hs (by intro z; cases z)
  cases ew
  exact ⟨e, r⟩
theorem getD_set_self {σ : St} {i : Nat} {v : Option V} (h : i < σ.length) : (σ.set i v).getD i none = v := by
  rw [List.getD_eq_getElem?_getD, List.getElem?_set_self h]; rfl
theorem getD_set_ne {σ : St} {i j : Nat} {v : Option V} (h : i ≠ j) : (σ.set i v).getD j none = σ.getD j none := by
  rw [List.getD_eq_getElem?_getD, List.getElem?_set_ne h, List.getD_eq_getElem?_getD]
theorem set_cases {i j : Nat} {s t : Sl} (h : (ss.set i s)[j]? = some t) : (i = j ∧ t = s ∧ i < ss.length) ∨ (i ≠ j ∧ ss[j]? = some t) := by
  by_cases hj : i = j
  · subst hj
    have hi := (List.getElem?_eq_some_iff.mp h).1
    rw [List.length_set] at hi
    rw [List.getElem?_set_self hi] at h
    exact .inl ⟨rfl, (Option.some.inj h).symm, hi⟩
  · rw [List.getElem?_set_ne hj] at h; exact .inr ⟨hj, h⟩
theorem Sat.put {σ' : St} (S : Sat K G H₀ L F H σ ss) {i : Nat} {s : Sl} (ex : Ext G H₀ F' H') (fl : Same L F') (hl : σ'.length = σ.length) (hσ : ∀ j, j ≠ i → σ'.getD j none = σ.getD j none) (hi : i < ss.length → SlOk K H₀ F' H' (σ'.getD i none) s)
    (nd : s.ads.Nodup) (dj : ∀ (j : Nat) s', j ≠ i → ss[j]? = some s' → ∀ p ∈ s.ads, p ∉ s'.ads) (st : ∀ (j : Nat) s', j ≠ i → ss[j]? = some s' → SlOk K H₀ F' H' (σ.getD j none) s') : Sat K G H₀ L F' H' σ' (ss.set i s) := by
  refine ⟨ex, fl, by rw [List.length_set, hl, S.len], fun j t ht => ?_, fun j t ht => ?_, fun j k t u hjk ht hu => ?_⟩
  · rcases set_cases ht with ⟨rfl, rfl, hlt⟩ | ⟨hj, ht⟩
    · exact hi hlt
    · rw [hσ j (Ne.symm hj)]; exact st j t (Ne.symm hj) ht
  · rcases set_cases ht with ⟨rfl, rfl, _⟩ | ⟨hj, ht⟩
    · exact nd
    · exact S.nd j t ht
  · rcases set_cases ht with ⟨rfl, rfl, _⟩ | ⟨hj, ht'⟩
    · rcases set_cases hu with ⟨rfl, rfl, _⟩ | ⟨hk, hu'⟩
      · exact absurd rfl hjk
      · exact dj k u (Ne.symm hk) hu'
    · rcases set_cases hu with ⟨rfl, rfl, _⟩ | ⟨hk, hu'⟩
      · exact fun p hp hp' => dj j t (Ne.symm hj) ht' p hp' hp
      · exact S.ne j k t u hjk ht' hu'
theorem Sat.setD (S : Sat K G H₀ L F H σ ss) {i : Nat} {x : D} {v : V} (r : Rep K F x v) : Sat K G H₀ L F H (σ.set i (some v)) (ss.set i (.d x)) :=
  S.put S.ext S.fl (by simp) (fun j hj => getD_set_ne (Ne.symm hj)) (fun hi => by rw [getD_set_self (by rw [S.len]; exact hi)]; exact ⟨v, rfl, r⟩) (by simp [Sl.ads]) (fun _ _ _ _ p hp => by simp [Sl.ads] at hp) fun j s' _ h => S.ok j s' h
theorem Sat.setO (S : Sat K G H₀ L F H σ ss) {i : Nat} {xs : List D} {p : Addr} (r : OwnL K H₀ F H p xs) (hne : ∀ (j : Nat) s', j ≠ i → ss[j]? = some s' → p ∉ s'.ads) : Sat K G H₀ L F H (σ.set i (some (.ref p))) (ss.set i (.o p xs)) :=
  S.put S.ext S.fl (by simp) (fun j hj => getD_set_ne (Ne.symm hj)) (fun hi => by rw [getD_set_self (by rw [S.len]; exact hi)]; exact ⟨rfl, r⟩) (by simp [Sl.ads]) (fun j s' hj h q hq => by simp [Sl.ads] at hq; subst hq; exact hne j s' hj h) fun j s' _ h => S.ok j s' h
theorem Sat.write (S : Sat K G H₀ L F H σ ss) {i : Nat} {xs ys : List D} {p : Addr} {vs : List V} (hs : ss[i]? = some (.o p xs)) (r : Reps K F ys vs) : Sat K G H₀ L F (upd H p (.lst vs)) σ (ss.set i (.o p ys)) := by
  obtain ⟨e, h0, fp, ws, hp, _⟩ := S.getO hs
  have hget : σ.getD i none = some (.ref p) := by rw [List.getD_eq_getElem?_getD, e]; rfl
  refine S.put (S.ext.write fp h0) S.fl rfl (fun _ _ => rfl) (fun _ => by rw [hget]; exact ⟨rfl, h0, fp, vs, upd_same, r⟩) (by simp [Sl.ads]) (fun j s' hj h q hq => ?_) fun j s' hj h => (S.ok j s' h).updNe (S.ne i j _ s' (Ne.symm hj) hs h p (by simp [Sl.ads]))
  simp [Sl.ads] at hq; subst hq
  exact S.ne i j _ s' (Ne.symm hj) hs h q (by simp [Sl.ads])
theorem Sat.freeze (S : Sat K G H₀ L F H σ ss) {i : Nat} {p : Addr} {xs : List D} (hs : ss[i]? = some (.o p xs)) : ∃ F', Sat K G H₀ L F' H σ (ss.set i (.d (.lst xs))) := by
  obtain ⟨e, h0, fp, vs, hp, r⟩ := S.getO hs
  have hget : σ.getD i none = some (.ref p) := by rw [List.getD_eq_getElem?_getD, e]; rfl
  exact ⟨upd F p (.lst vs), S.put (S.ext.freeze fp h0 hp) (S.fl.trans (Same.upd fp)) rfl (fun _ _ => rfl) (fun _ => by rw [hget]; exact ⟨_, rfl, Rep.lst (SqL.of upd_same) (r.mono (Same.upd fp))⟩) (by simp [Sl.ads]) (fun _ _ _ _ q hq => by simp [Sl.ads] at hq)
    fun j s' hj h => (S.ok j s' h).frz fp (S.ne i j _ s' (Ne.symm hj) hs h p (by simp [Sl.ads]))⟩
end

section
variable (K : PySem.W.Frag) (G H₀ L : Hp) (ss : List Sl)
def Ev (t : TE) (d : D) : Prop := ∀ F H σ Q, Sat K G H₀ L F H σ ss → (∀ v F' H', Ext F H F' H' → Rep K F' d v → Q v H') → t σ H Q
def EvO (t : TE) (ds : List D) : Prop := ∀ F H σ Q, Sat K G H₀ L F H σ ss → (∀ p vs F' H', Ext F H F' H' → H p = none → F' p = none → H' p = some (.lst vs) → Reps K F' ds vs → Q (.ref p) H') → t σ H Q
def EvL (t : TE) (ds : List D) : Prop := ∀ F H σ Q, Sat K G H₀ L F H σ ss → (∀ p vs F' H', Ext F H F' H' → SqL K H' p vs → Reps K F' ds vs → Q (.ref p) H') → t σ H Q
def EvB (t : TE) (d : D) : Prop := ∀ F H σ Q, Sat K G H₀ L F H σ ss → (∀ v F' H', Ext F H F' H' → Rep K H' d v → Q v H') → t σ H Q
def EvT (t : TT) (b : Bool) : Prop := ∀ F H σ (Q : Bool → Hp → Prop), Sat K G H₀ L F H σ ss → (∀ F' H', Ext F H F' H' → Q b H') → t σ H Q
def EvA (t : TA) (ds : List D) : Prop := ∀ F H σ (Q : List V → Hp → Prop), Sat K G H₀ L F H σ ss → (∀ vs F' H', Ext F H F' H' → Reps K H' ds vs → Q vs H') → t σ H Q
def EvAF (t : TA) (ds : List D) : Prop := ∀ F H σ (Q : List V → Hp → Prop), Sat K G H₀ L F H σ ss → (∀ vs F' H', Ext F H F' H' → Reps K F' ds vs → Q vs H') → t σ H Q
end
section
variable {K : PySem.W.Frag} {G H₀ L : Hp} {ss : List Sl} {t ta tb : TE} {d d1 d2 : D} {ds es : List D}
theorem EvO.l (h : EvO K G H₀ L ss t ds) : EvL K G H₀ L ss t ds := fun F H σ Q S q => h F H σ Q S fun p vs F' H' e hp fp hp' r => q _ _ _ _ e (SqL.of hp') r
theorem Ev.l (h : Ev K G H₀ L ss t (.lst ds)) : EvL K G H₀ L ss t ds := fun F H σ Q S q => h F H σ Q S fun v F' H' e r => by
  obtain ⟨p, xs, rfl, sq, rs⟩ := r.of_lst
  exact q _ _ _ _ e (SqL.same e.fh sq) rs
theorem Ev.b (h : Ev K G H₀ L ss t d) : EvB K G H₀ L ss t d := fun F H σ Q S q => h F H σ Q S fun v F' H' e r => q _ _ _ e (r.mono e.fh)
theorem ev_var {i : Nat} (hs : ss[i]? = some (.d d)) : Ev K G H₀ L ss (tVar i) d := fun F H σ Q S q => by
  obtain ⟨v, e, r⟩ := S.getD hs
  exact ⟨v, e, q _ _ _ (Ext.refl S.ext.fh) r⟩
theorem evl_own {i : Nat} {p : Addr} (hs : ss[i]? = some (.o p ds)) : EvL K G H₀ L ss (tVar i) ds := fun F H σ Q S q => by
  obtain ⟨e, h0, fp, vs, hp, r⟩ := S.getO hs
  exact ⟨.ref p, e, q _ _ _ _ (Ext.refl S.ext.fh) (SqL.of hp) r⟩
theorem ev_int {i : Int} : Ev K G H₀ L ss (tC (.int i)) (.int i) := fun F H σ Q S q => q _ _ _ (Ext.refl S.ext.fh) Rep.int
theorem ev_bl {b : Bool} : Ev K G H₀ L ss (tC (.bl b)) (.bl b) := fun F H σ Q S q => q _ _ _ (Ext.refl S.ext.fh) Rep.bl
theorem ev_non : Ev K G H₀ L ss (tC .non) .non := fun F H σ Q S q => q _ _ _ (Ext.refl S.ext.fh) Rep.non
theorem ev_str {x : Str} {l : List Nat} (h : x = T l) (ha : ∀ c ∈ l, c < 128) : Ev K G H₀ L ss (tC (.str x)) (.str l) := fun F H σ Q S q => by subst h; exact q _ _ _ (Ext.refl S.ext.fh) (Rep.str ha)
theorem ev_op2 {r : R2} {w : V} (a : EvB K G H₀ L ss ta d1) (b : EvB K G H₀ L ss tb d2) (hr : ∀ H x y (Q : VK), Rep K H d1 x → Rep K H d2 y → Q w H → r x y H Q) (hw : ∀ F H x y, Rep K H d1 x → Rep K H d2 y → Rep K F d w) : Ev K G H₀ L ss (tOp r ta tb) d := fun F H σ Q S q =>
  a F H σ _ S fun x F1 H1 e1 r1 => b F1 H1 σ _ (S.ext2 e1) fun y F2 H2 e2 r2 => hr H2 x y Q (r1.mono e2.hh) r2 (q _ _ _ (e1.trans e2) (hw _ _ _ _ (r1.mono e2.hh) r2))
theorem ev_add {i j : Int} (a : EvB K G H₀ L ss ta (.int i)) (b : EvB K G H₀ L ss tb (.int j)) : Ev K G H₀ L ss (tOp (rI0 fun i j => .int (i + j)) ta tb) (.int (i + j)) :=
  ev_op2 a b (fun H x y Q r1 r2 q => ⟨i, j, r1.of_int, r2.of_int, q⟩) fun _ _ _ _ _ _ => Rep.int
theorem ev_opI {C : Int → Int → Prop} {g : Int → Int → Int} {i j : Int} (a : EvB K G H₀ L ss ta (.int i)) (b : EvB K G H₀ L ss tb (.int j)) (hC : C i j) : Ev K G H₀ L ss (tOp (rI C fun i j => .int (g i j)) ta tb) (.int (g i j)) :=
  ev_op2 a b (fun H x y Q r1 r2 q => ⟨i, j, r1.of_int, r2.of_int, hC, q⟩) fun _ _ _ _ _ _ => Rep.int
theorem ev_cmpI {g : Int → Int → Bool} {i j : Int} (a : EvB K G H₀ L ss ta (.int i)) (b : EvB K G H₀ L ss tb (.int j)) : Ev K G H₀ L ss (tOp (rI0 fun i j => .bl (g i j)) ta tb) (.bl (g i j)) :=
  ev_op2 a b (fun H x y Q r1 r2 q => ⟨i, j, r1.of_int, r2.of_int, q⟩) fun _ _ _ _ _ _ => Rep.bl
theorem ev_eqI {i j : Int} (a : EvB K G H₀ L ss ta (.int i)) (b : EvB K G H₀ L ss tb (.int j)) : Ev K G H₀ L ss (tOp rEq ta tb) (.bl (decide (i = j))) :=
  ev_op2 (w := .bl (decide (i = j))) a b (fun H x y Q r1 r2 q => by rw [r1.of_int, r2.of_int]; exact ⟨rfl, by simpa using q⟩) fun _ _ _ _ _ _ => Rep.bl
theorem ev_neI {i j : Int} (a : EvB K G H₀ L ss ta (.int i)) (b : EvB K G H₀ L ss tb (.int j)) : Ev K G H₀ L ss (tOp rNe ta tb) (.bl (!decide (i = j))) :=
  ev_op2 (w := .bl (!decide (i = j))) a b (fun H x y Q r1 r2 q => by rw [r1.of_int, r2.of_int]; exact ⟨rfl, by simpa using q⟩) fun _ _ _ _ _ _ => Rep.bl
theorem ev_eqS {l m : List Nat} (a : EvB K G H₀ L ss ta (.str l)) (b : EvB K G H₀ L ss tb (.str m)) : Ev K G H₀ L ss (tOp rEq ta tb) (.bl (decide (l = m))) :=
  ev_op2 (w := .bl (decide (l = m))) a b (fun H x y Q r1 r2 q => by rw [r1.of_str, r2.of_str]; exact ⟨rfl, by rw [T_decide]; exact q⟩) fun _ _ _ _ _ _ => Rep.bl
theorem ev_neS {l m : List Nat} (a : EvB K G H₀ L ss ta (.str l)) (b : EvB K G H₀ L ss tb (.str m)) : Ev K G H₀ L ss (tOp rNe ta tb) (.bl (!decide (l = m))) :=
  ev_op2 (w := .bl (!decide (l = m))) a b (fun H x y Q r1 r2 q => by rw [r1.of_str, r2.of_str]; exact ⟨rfl, by rw [T_decide]; exact q⟩) fun _ _ _ _ _ _ => Rep.bl
theorem ev_catS {l m : List Nat} (a : EvB K G H₀ L ss ta (.str l)) (b : EvB K G H₀ L ss tb (.str m)) (hz : l.length + m.length ≤ sizeLine) :
    Ev K G H₀ L ss (tOp (fun x y H Q => ∃ i j, x = .str i ∧ y = .str j ∧ i.length + j.length ≤ sizeLine ∧ Q (.str (i ++ j)) H) ta tb) (.str (l ++ m)) :=
  ev_op2 (w := .str (T (l ++ m))) a b (fun H x y Q r1 r2 q => ⟨_, _, r1.of_str, r2.of_str, by rw [T_len, T_len]; exact hz, by rw [T_app]; exact q⟩) fun _ _ _ _ r1 r2 => Rep.str fun c hc => (List.mem_append.mp hc).elim (r1.asc c) (r2.asc c)
theorem atI_mem {α : Type} {xs : List α} {i : Int} {x : α} (h : atI xs i = some x) : x ∈ xs := by
  unfold atI at h
  cases hx : ixN xs.length i with
  | none => rw [hx] at h; cases h
  | some j => rw [hx] at h; exact List.mem_of_getElem? h
theorem ev_ixS {l : List Nat} {i : Int} {c : Nat} (a : EvB K G H₀ L ss ta (.str l)) (b : EvB K G H₀ L ss tb (.int i)) (hz : l.length ≤ sizeLine) (hc : atI l i = some c) : Ev K G H₀ L ss (tOp rIxS ta tb) (.str [c]) :=
  ev_op2 (w := .str (T [c])) a b (fun H x y Q r1 r2 q => ⟨_, _, c, r1.of_str, r2.of_int, by rw [T_len]; exact hz, by rw [T_cps]; exact hc, q⟩) fun _ _ _ _ r1 r2 => Rep.str fun c' hc' => by
    rw [List.mem_singleton.mp hc']
    exact r1.asc c (atI_mem hc)
theorem Reps.atI {H : Hp} {ds : List D} {vs : List V} {i : Int} {d : D} (r : Reps K H ds vs) (h : L2.atI ds i = some d) : ∃ v, L2.atI vs i = some v ∧ Rep K H d v := by
  unfold L2.atI at h ⊢
  rw [r.length] at h
  cases hx : ixN vs.length i with
  | none => rw [hx] at h; cases h
  | some j => rw [hx] at h; exact r.get' h
theorem ev_ixL {i : Int} (a : EvL K G H₀ L ss ta ds) (b : EvB K G H₀ L ss tb (.int i)) (hc : atI ds i = some d) : Ev K G H₀ L ss (tOp (rIxL K) ta tb) d := fun F H σ Q S q =>
  a F H σ _ S fun p vs F1 H1 e1 sq r1 => b F1 H1 σ _ (S.ext2 e1) fun y F2 H2 e2 r2 => by
    obtain ⟨v, hv, rv⟩ := r1.atI hc
    exact ⟨p, vs, i, v, rfl, r2.of_int, SqL.same e2.hh sq, hv, q _ _ _ (e1.trans e2) (rv.mono e2.gf)⟩
theorem eva_nil : EvA K G H₀ L ss tNil [] := fun F H σ Q S q => q _ _ _ (Ext.refl S.ext.fh) Reps.nil
theorem eva_cons {t : TA} (a : EvB K G H₀ L ss ta d) (b : EvA K G H₀ L ss t ds) : EvA K G H₀ L ss (tCons ta t) (d :: ds) := fun F H σ Q S q =>
  a F H σ _ S fun x F1 H1 e1 r1 => b F1 H1 σ _ (S.ext2 e1) fun vs F2 H2 e2 r2 => q _ _ _ (e1.trans e2) (Reps.cons (r1.mono e2.hh) r2)
theorem evaf_nil : EvAF K G H₀ L ss tNil [] := fun F H σ Q S q => q _ _ _ (Ext.refl S.ext.fh) Reps.nil
theorem evaf_cons {t : TA} (a : Ev K G H₀ L ss ta d) (b : EvAF K G H₀ L ss t ds) : EvAF K G H₀ L ss (tCons ta t) (d :: ds) := fun F H σ Q S q =>
  a F H σ _ S fun x F1 H1 e1 r1 => b F1 H1 σ _ (S.ext2 e1) fun vs F2 H2 e2 r2 => q _ _ _ (e1.trans e2) (Reps.cons (r1.mono e2.gf) r2)
theorem ev_tup {t : TA} (a : EvAF K G H₀ L ss t ds) (hz : ds.length ≤ sizeLine) : Ev K G H₀ L ss (tTup t) (.tup ds) := fun F H σ Q S q =>
  a F H σ _ S fun vs F1 H1 e1 r1 => ⟨by rw [← r1.length]; exact hz, fun p hp => q _ _ _ (e1.newF hp) (Rep.tup (SqT.of upd_same) (r1.mono (Same.upd (e1.fh.free hp))))⟩
theorem evo_lst {t : TA} (a : EvAF K G H₀ L ss t ds) (hz : ds.length ≤ sizeLine) : EvO K G H₀ L ss (tLst t) ds := fun F H σ Q S q =>
  a F H σ _ S fun vs F1 H1 e1 r1 => ⟨by rw [← r1.length]; exact hz, fun p hp => q p vs F1 _ (e1.newO hp) (e1.hh.free hp) (e1.fh.free hp) upd_same r1⟩
theorem evt_test {b : Bool} (a : Ev K G H₀ L ss t (.bl b)) : EvT K G H₀ L ss (tTest t) b := fun F H σ Q S q => a F H σ _ S fun v F' H' e r => ⟨b, r.of_bl, q _ _ e⟩
theorem evt_b {b : Bool} (a : Ev K G H₀ L ss t (.bl b)) : EvT K G H₀ L ss (tB t) b := fun F H σ Q S q => a F H σ _ S fun v F' H' e r => ⟨b, r.of_bl, q _ _ e⟩
theorem evt_not {u : TT} {b : Bool} (a : EvT K G H₀ L ss u b) : EvT K G H₀ L ss (tNot u) (!b) := fun F H σ Q S q => a F H σ _ S fun F' H' e => q _ _ e
theorem evt_and {u v : TT} {b c : Bool} (a : EvT K G H₀ L ss u b) (h : b = true → EvT K G H₀ L ss v c) : EvT K G H₀ L ss (tAnd u v) (b && c) := fun F H σ Q S q => a F H σ _ S fun F' H' e => by
  cases b with
  | false => exact iteF (q _ _ e)
  | true => exact iteT (h rfl _ _ _ _ (S.ext2 e) fun F'' H'' e' => q _ _ (e.trans e'))
theorem evt_or {u v : TT} {b c : Bool} (a : EvT K G H₀ L ss u b) (h : b = false → EvT K G H₀ L ss v c) : EvT K G H₀ L ss (tOr u v) (b || c) := fun F H σ Q S q => a F H σ _ S fun F' H' e => by
  cases b with
  | true => exact iteT (q _ _ e)
  | false => exact iteF (h rfl _ _ _ _ (S.ext2 e) fun F'' H'' e' => q _ _ (e.trans e'))
theorem ev_and {b c : Bool} (a : Ev K G H₀ L ss ta (.bl b)) (h : b = true → Ev K G H₀ L ss tb (.bl c)) : Ev K G H₀ L ss (tAndV ta tb) (.bl (b && c)) := fun F H σ Q S q => a F H σ _ S fun v F' H' e r => by
  refine ⟨b, r.of_bl, ?_⟩
  cases b with
  | false => exact iteF (q _ _ _ e Rep.bl)
  | true => exact iteT (h rfl _ _ _ _ (S.ext2 e) fun v F'' H'' e' r' => q _ _ _ (e.trans e') r')
theorem ev_not {b : Bool} (a : Ev K G H₀ L ss ta (.bl b)) : Ev K G H₀ L ss (tNotV ta) (.bl (!b)) := fun F H σ Q S q => a F H σ _ S fun v F' H' e r => ⟨b, r.of_bl, q _ _ _ e Rep.bl⟩
end
end L2

namespace L2
open PySem PySem.Spec PyProof.Rows
def SpD (K : PySem.W.Frag) (pre : List D → Prop) (res : List D → D) : Sp := fun vs H Q _ => ∃ G ds, Same G H ∧ Reps K G ds vs ∧ pre ds ∧ ∀ v G' H', Ext G H G' H' → Rep K G' (res ds) v → Q v H'
def SpO (K : PySem.W.Frag) (pre : List D → Prop) (res : List D → List D) : Sp := fun vs H Q _ => ∃ G ds, Same G H ∧ Reps K G ds vs ∧ pre ds ∧ ∀ p ws G' H', Ext G H G' H' → H p = none → G' p = none → H' p = some (.lst ws) → Reps K G' (res ds) ws → Q (.ref p) H'
def D.flat : D → Bool
  | .lst _ => false | .tup _ => false | .dct _ _ => false | .dctT _ _ => false | .ins _ _ _ => false | _ => true
section
variable {K : PySem.W.Frag} {G H₀ L : Hp} {ss : List Sl} {t : TA} {ds : List D} {pre : List D → Prop} {E : XK}
theorem ev_call {res : List D → D} (a : EvAF K G H₀ L ss t ds) (hp : pre ds) : Ev K G H₀ L ss (tCall (SpD K pre res) [] E t) (res ds) := fun F H σ Q S q =>
  a F H σ _ S fun vs F1 H1 e1 r1 => ⟨F1, ds, e1.fh, by rw [List.append_nil]; exact r1, hp, fun v G' H' e2 r => q _ _ _ (e1.trans e2) r⟩
theorem evo_call {res : List D → List D} (a : EvAF K G H₀ L ss t ds) (hp : pre ds) : EvO K G H₀ L ss (tCall (SpO K pre res) [] E t) (res ds) := fun F H σ Q S q =>
  a F H σ _ S fun vs F1 H1 e1 r1 => ⟨F1, ds, e1.fh, by rw [List.append_nil]; exact r1, hp, fun p ws G' H' e2 h1 h2 h3 r => q _ _ _ _ (e1.trans e2) (e1.hh.free h1) h2 h3 r⟩
end

section
variable (K : PySem.W.Frag) (G H₀ L : Hp)
def Nx (P : St → Hp → Prop) (ss : List Sl) : Prop := ∀ F H σ, Sat K G H₀ L F H σ ss → P σ H
def Go (E : Ends) (ss : List Sl) (t : TS) : Prop := ∀ F H σ, Sat K G H₀ L F H σ ss → t E σ H
def Tg (g : TG) (d : D) (ss ss' : List Sl) : Prop := ∀ F H σ v (Q : St → Hp → Prop), Sat K G H₀ L F H σ ss → Rep K F d v → (∀ σ' , Sat K G H₀ L F H σ' ss' → Q σ' H) → g v σ H Q
def At (I : List Sl → Prop) : St → Hp → Prop := fun σ H => ∃ ss F, Sat K G H₀ L F H σ ss ∧ I ss
end
def RtD (K : PySem.W.Frag) (G H₀ : Hp) (rt : VK) (d : D) : Prop := ∀ v F H, Ext G H₀ F H → Rep K F d v → rt v H
def RtO (K : PySem.W.Frag) (G H₀ : Hp) (rt : VK) (ds : List D) : Prop := ∀ p vs F H, Ext G H₀ F H → H₀ p = none → F p = none → H p = some (.lst vs) → Reps K F ds vs → rt (.ref p) H
section
variable {K : PySem.W.Frag} {G H₀ L : Hp} {ss ss' : List Sl} {E : Ends} {t u : TS} {te : TE} {d : D} {ds : List D} {P : St → Hp → Prop}
theorem go_seq (h : Go K G H₀ L { E with nx := u E } ss t) : Go K G H₀ L E ss (tSeq t u) := h
theorem go_set {i : Nat} (a : Ev K G H₀ L ss te d) (h : Nx K G H₀ L E.nx (ss.set i (.d d))) : Go K G H₀ L E ss (tAsg te (gName i)) := fun F H σ S => a F H σ _ S fun v F' H' e r => h F' H' _ ((S.ext2 e).setD r)
theorem Sat.notin {F H : Hp} {σ : St} {p : Addr} (S : Sat K G H₀ L F H σ ss) (hp : H p = none) (j : Nat) (s : Sl) (h : ss[j]? = some s) : p ∉ s.ads := fun z => (S.ok j s h).live z hp
theorem Sat.newO {F H F' H' : Hp} {σ : St} {p : Addr} {vs : List V} {i : Nat} (S : Sat K G H₀ L F H σ ss) (e : Ext F H F' H') (hp : H p = none) (fp : F' p = none) (hp' : H' p = some (.lst vs)) (r : Reps K F' ds vs) : Sat K G H₀ L F' H' (σ.set i (some (.ref p))) (ss.set i (.o p ds)) :=
  (S.ext2 e).setO ⟨S.ext.hh.free hp, fp, vs, hp', r⟩ fun j s _ h => S.notin hp j s h
theorem go_setO {i : Nat} (a : EvO K G H₀ L ss te ds) (h : ∀ p, Nx K G H₀ L E.nx (ss.set i (.o p ds))) : Go K G H₀ L E ss (tAsg te (gName i)) := fun F H σ S => a F H σ _ S fun p vs F' H' e hp fp hp' r => h p F' H' _ (S.newO e hp fp hp' r)
theorem go_if {c : TT} {b : Bool} (a : EvT K G H₀ L ss c b) (h1 : b = true → Go K G H₀ L E ss t) (h2 : b = false → Go K G H₀ L E ss u) : Go K G H₀ L E ss (tIfS c t u) := fun F H σ S => a F H σ _ S fun F' H' e => by
  cases b with
  | true => exact iteT (h1 rfl F' H' σ (S.ext2 e))
  | false => exact iteF (h2 rfl F' H' σ (S.ext2 e))
theorem go_next (h : Nx K G H₀ L E.nx ss) : Go K G H₀ L E ss tNext := h
theorem go_ret (a : Ev K G H₀ L ss te d) (h : RtD K G H₀ E.rt d) : Go K G H₀ L E ss (tRet te) := fun F H σ S => a F H σ _ S fun v F' H' e r => h v F' H' (S.ext.trans e) r
theorem go_retO (a : EvO K G H₀ L ss te ds) (h : RtO K G H₀ E.rt ds) : Go K G H₀ L E ss (tRet te) := fun F H σ S => a F H σ _ S fun p vs F' H' e hp fp hp' r => h p vs F' H' (S.ext.trans e) (S.ext.hh.free hp) fp hp' r
theorem nx_freeze {i : Nat} {p : Addr} (hs : ss[i]? = some (.o p ds)) (h : Nx K G H₀ L P (ss.set i (.d (.lst ds)))) : Nx K G H₀ L P ss := fun F H σ S => by
  obtain ⟨F', S'⟩ := S.freeze hs
  exact h F' H σ S'
theorem nx_go (h : Go K G H₀ L E ss t) : Nx K G H₀ L (t E) ss := h
theorem nx_at {I : List Sl → Prop} (h : I ss) : Nx K G H₀ L (At K G H₀ L I) ss := fun F H σ S => ⟨ss, F, S, h⟩
theorem go_join (I : List Sl → Prop) (h1 : ∀ N : St → Hp → Prop, (∀ ss, I ss → Nx K G H₀ L N ss) → Go K G H₀ L { E with nx := N } ss t) (h2 : ∀ ss, I ss → Go K G H₀ L E ss u) : Go K G H₀ L E ss (tSeq t u) := h1 _ h2
theorem tg_name {i : Nat} : Tg K G H₀ L (gName i) d ss (ss.set i (.d d)) := fun F H σ v Q S r q => q _ (S.setD r)
theorem go_append {i : Nat} {p : Addr} {t1 : TE} (hs : ss[i]? = some (.o p ds)) (a : Ev K G H₀ L ss t1 d) (hz : ds.length < sizeLine) (h : Nx K G H₀ L E.nx (ss.set i (.o p (ds ++ [d])))) :
    Go K G H₀ L E ss (tDrop (tBM K "list" rAppend (tVar i) (tCons t1 tNil))) := fun F H σ S => by
  obtain ⟨e, h0, fp, vs, hp, r⟩ := S.getO hs
  refine ⟨.ref p, e, .inl ⟨rfl, _, SqL.of hp⟩, a F H σ _ S fun v F' H' e' r' => ?_⟩
  have S' := S.ext2 e'
  obtain ⟨e2, h02, fp2, vs', hp2, r2⟩ := S'.getO hs
  exact ⟨p, vs', v, rfl, rfl, hp2, by rw [← r2.length]; exact hz, h F' _ σ (S'.write hs (r2.snoc r'))⟩
theorem go_range {ta : TA} {j : Nat} {tb : TS} {n : Int} (I : Nat → List Sl → Prop) (a : EvA K G H₀ L ss ta [.int n]) (hb : -(2 ^ 62) ≤ n ∧ n < 2 ^ 62) (h0 : I 0 ss)
    (hs : ∀ (k : Nat) ss, (k : Int) < n → I k ss → ∀ N, (∀ ss, I (k + 1) ss → Nx K G H₀ L N ss) → Go K G H₀ L { E with nx := N, ct := N, bk := E.nx } (ss.set j (.d (.int (k : Int)))) tb)
    (hd : ∀ ss, I n.toNat ss → Nx K G H₀ L E.nx ss) {ti : TI} (hti : ∀ σ H R, (ta σ H fun vs H1 => ∃ m : Int, vs = [.int m] ∧ -(2 ^ 62) ≤ m ∧ m < 2 ^ 62 ∧ R (Itr 0 m.toNat) H1) → ti σ H R) : Go K G H₀ L E ss (tFor ti (gName j) tb) := fun F H σ S => by
  refine hti σ H _ (a F H σ _ S fun vs F1 H1 e1 r1 => ?_)
  rw [Reps] at r1
  obtain ⟨x, r, rfl, rx, r1⟩ := r1
  rw [Reps] at r1
  subst r1
  rw [rx.of_int]
  refine ⟨n, rfl, hb.1, hb.2, fun i m σ' H' => m = n.toNat - i ∧ i ≤ n.toNat ∧ At K G H₀ L (I i) σ' H', ⟨_, rfl, Nat.zero_le _, ss, F1, S.ext2 e1, h0⟩, ?_⟩
  rintro i m σ' H' ⟨rfl, hi, ss1, F2, S2, h2⟩
  by_cases hlt : i < n.toNat
  · refine .inr ⟨hlt, fun σ'' H'' => At K G H₀ L (I (i + 1)) σ'' H'', fun σ'' H'' h => ⟨n.toNat - (i + 1), by omega, rfl, hlt, h⟩, fun x H'' y => ?_⟩
    obtain ⟨rfl, rfl⟩ := y
    refine hs i ss1 (by omega) h2 _ (fun ss h => nx_at h) F2 _ _ ?_
    have e : (0 : Int) + (i : Int) = (i : Int) := by omega
    rw [e]
    exact S2.setD Rep.int
  · have e : i = n.toNat := by omega
    subst e
    exact .inl ⟨Nat.le_refl _, hd ss1 h2 F2 H' σ' S2⟩
end
end L2

namespace L2
open PySem PySem.Spec PyProof.Rows
mutual
def D.toP : D → PyData
  | .non => .none
  | .bl b => .bool b
  | .int i => .int i
  | .str l => .str (T l)
  | .lst a => .list (D.toPs a)
  | .tup a => .tuple (D.toPs a)
  | .dct _ _ => .none
  | .dctT _ _ => .none
  | .ins _ _ _ => .none
def D.toPs : List D → List PyData
  | [] => []
  | a :: x => a.toP :: D.toPs x
end
mutual
theorem D.toP_depth : ∀ d : D, d.toP.depth = d.dep
  | .non => rfl
  | .bl _ => rfl
  | .int _ => rfl
  | .str _ => rfl
  | .lst a => by simp [D.toP, PyData.depth, D.dep, D.toPs_depth a]
  | .tup a => by simp [D.toP, PyData.depth, D.dep, D.toPs_depth a]
  | .dct _ _ => rfl
  | .dctT _ _ => rfl
  | .ins _ _ _ => rfl
theorem D.toPs_depth : ∀ a : List D, PyData.depthAll (D.toPs a) = D.deps a
  | [] => rfl
  | d :: a => by simp [D.toPs, PyData.depthAll, D.deps, D.toP_depth d, D.toPs_depth a]
end
mutual
theorem D.eqv : ∀ d e : D, d.nb = true → e.nb = true → PyData.eqv d.toP e.toP = decide (d = e)
  | .non, e, _, h2 => by cases e <;> simp [D.toP, PyData.eqv, D.nb] at h2 ⊢
  | .bl _, _, h1, _ => by simp [D.nb] at h1
  | .dct _ _, _, h1, _ => by simp [D.nb] at h1
  | .dctT _ _, _, h1, _ => by simp [D.nb] at h1
  | .ins _ _ _, _, h1, _ => by simp [D.nb] at h1
  | .int i, e, _, h2 => by
    cases e <;> simp [D.toP, PyData.eqv, D.nb] at h2 ⊢
    exact Bool.beq_eq_decide_eq _ _
  | .str l, e, _, h2 => by
    cases e <;> simp [D.toP, PyData.eqv, D.nb] at h2 ⊢
    rename_i m
    rw [Bool.eq_iff_iff]; simp [T_inj]
  | .lst a, e, h1, h2 => by
    cases e with
    | lst b =>
      simp only [D.nb] at h1 h2
      simp only [D.toP, PyData.eqv, D.lst.injEq]
      exact D.eqvs a b h1 h2
    | _ => simp [D.toP, PyData.eqv, D.nb] at h2 ⊢
  | .tup a, e, h1, h2 => by
    cases e with
    | tup b =>
      simp only [D.nb] at h1 h2
      simp only [D.toP, PyData.eqv, D.tup.injEq]
      exact D.eqvs a b h1 h2
    | _ => simp [D.toP, PyData.eqv, D.nb] at h2 ⊢
theorem D.eqvs : ∀ a b : List D, D.nbs a = true → D.nbs b = true → PyData.eqvAll (D.toPs a) (D.toPs b) = decide (a = b)
  | [], b, _, _ => by cases b <;> simp [D.toPs, PyData.eqvAll]
  | d :: a, b, h1, h2 => by
    cases b with
    | nil => simp [D.toPs, PyData.eqvAll]
    | cons e b =>
      simp only [D.nbs, Bool.and_eq_true] at h1 h2
      simp only [D.toPs, PyData.eqvAll, D.eqv d e h1.1 h2.1, D.eqvs a b h1.2 h2.2, List.cons.injEq]
      by_cases x : d = e <;> by_cases y : a = b <;> simp [x, y]
end
section
variable {X : Cx} {pins : List (Addr × Obj)} {σ : St} {H : Hp} {s : Shared}
theorem strOk_T {l : List Nat} (h : ∀ c ∈ l, c < 128) : PyData.strOk (T l) = true := by
  unfold PyData.strOk T
  simp
  intro c hc
  have := h c hc
  omega
mutual
theorem Inv.reads (I : Inv X pins σ H s) : ∀ {d : D} {v : V} {u : Value}, d.nb = true → Rep X.K H d v → RelV v u → (∃ as, Reads s.heap u d.toP as) ∧ d.toP.canLay0 = true
  | .non, _, _, _, r, q => by rw [r.of_non] at q; cases q; exact ⟨⟨_, Reads.none⟩, rfl⟩
  | .bl b, _, _, n, _, _ => by simp [D.nb] at n
  | .dct _ _, _, _, n, _, _ => by simp [D.nb] at n
  | .dctT _ _, _, _, n, _, _ => by simp [D.nb] at n
  | .ins _ _ _, _, _, n, _, _ => by simp [D.nb] at n
  | .int i, _, _, _, r, q => by rw [r.of_int] at q; obtain ⟨t, rfl⟩ := q; exact ⟨⟨_, Reads.int i t⟩, rfl⟩
  | .str l, _, _, _, r, q => by
    have ha := r.asc
    rw [r.of_str] at q; obtain ⟨t, rfl⟩ := q
    exact ⟨⟨_, Reads.str _ t⟩, strOk_T ha⟩
  | .lst ds, _, _, nn, r, q => by
    obtain ⟨p, xs, rfl, sq, rs⟩ := r.of_lst
    cases q
    obtain ⟨its, rv, ⟨o, n, e, c, _, hd⟩, _⟩ := I.list sq
    obtain ⟨⟨as, ra⟩, hc⟩ := I.readsAll (by simpa [D.nb] using nn) rs rv
    exact ⟨⟨_, Reads.list e c hd (by simpa using ra)⟩, by simpa [D.toP, PyData.canLay0] using hc⟩
  | .tup ds, _, _, nn, r, q => by
    obtain ⟨p, xs, rfl, sq, rs⟩ := r.of_tup
    cases q
    obtain ⟨its, rv, ⟨o, e, c, n, hd⟩, _⟩ := I.tuple sq
    obtain ⟨⟨as, ra⟩, hc⟩ := I.readsAll (by simpa [D.nb] using nn) rs rv
    exact ⟨⟨_, Reads.tuple e c hd (by simpa using ra)⟩, by simpa [D.toP, PyData.canLay0] using hc⟩
theorem Inv.readsAll (I : Inv X pins σ H s) : ∀ {ds : List D} {vs : List V} {us : List Value}, D.nbs ds = true → Reps X.K H ds vs → Vals vs us → (∃ as, ReadsAll s.heap us (D.toPs ds) as) ∧ PyData.canLayAll0 (D.toPs ds) = true
  | [], _, _, _, r, q => by
    rw [Reps] at r; subst r
    cases q
    exact ⟨⟨_, ReadsAll.nil⟩, rfl⟩
  | d :: ds, _, _, n, r, q => by
    simp only [D.nbs, Bool.and_eq_true] at n
    rw [Reps] at r
    obtain ⟨x, xs, rfl, r1, r2⟩ := r
    cases q with
    | cons q1 q2 =>
      obtain ⟨⟨as, a⟩, hc⟩ := I.reads n.1 r1 q1
      obtain ⟨⟨bs, b⟩, hc2⟩ := I.readsAll n.2 r2 q2
      exact ⟨⟨_, ReadsAll.cons a b⟩, by simp [D.toPs, PyData.canLayAll0, hc, hc2]⟩
end
end
def rNeD (K : PySem.W.Frag) : R2 := fun x y H Q => ∃ d e, Rep K H d x ∧ Rep K H e y ∧ d.nb = true ∧ e.nb = true ∧ d.dep ≤ 60 ∧ Q (.bl (!decide (d = e))) H
section
variable {X : Cx}
theorem op_neD (hu : X.A.units + 64 < cLine) : OpR X (compareOp .NotEq) (rNeD X.K) := by
  intro pins s σ H x y v u Q I rx ry h
  obtain ⟨d, e, r1, r2, n1, n2, hd, q⟩ := h
  obtain ⟨⟨as, a⟩, c1⟩ := I.reads n1 r1 rx
  obtain ⟨⟨bs, b⟩, c2⟩ := I.reads n2 r2 ry
  have h1 := D.toP_depth d
  refine SeqAt.compareNe_reads a b c1 c2 (by omega) ?_
  rw [D.eqv d e n1 n2]
  exact ⟨.bl _, H, I, rfl, q⟩
theorem any_toPs (d : D) (hd : d.nb = true) : ∀ ds : List D, D.nbs ds = true → ((D.toPs ds).any fun y => PyData.eqv y d.toP) = decide (d ∈ ds)
  | [], _ => by simp [D.toPs]
  | e :: ds, h => by
    simp only [D.nbs, Bool.and_eq_true] at h
    rw [D.toPs, List.any_cons, any_toPs d hd ds h.2, D.eqv e d h.1 hd]
    by_cases x : e = d
    · subst x; simp
    · have : ¬ d = e := fun z => x z.symm
      simp [x, this]
def rInD (K : PySem.W.Frag) (neg : Bool) : R2 := fun x y H Q => ∃ d ds, Rep K H d x ∧ (Rep K H (.lst ds) y ∨ Rep K H (.tup ds) y) ∧ d.nb = true ∧ D.nbs ds = true ∧ d.dep ≤ 60 ∧ Q (.bl (if neg then !decide (d ∈ ds) else decide (d ∈ ds))) H
theorem op_inD (hu : X.A.units + 64 < cLine) : OpR X (compareOp .In) (rInD X.K false) := by
  intro pins s σ H x y v u Q I rx ry h
  obtain ⟨d, ds, r1, r2, n1, n2, hd, q⟩ := h
  obtain ⟨⟨as, a⟩, c1⟩ := I.reads n1 r1 rx
  have h1 := D.toP_depth d
  have fin : EP X pins σ Q (.bool ((D.toPs ds).any fun y => PyData.eqv y d.toP)) s := by rw [any_toPs d n1 ds n2]; exact ⟨.bl _, H, I, rfl, q⟩
  rcases r2 with r2 | r2
  · obtain ⟨⟨bs, b⟩, c2⟩ := I.reads (by simpa [D.nb] using n2) r2 ry
    rw [D.toP] at b c2
    exact SeqAt.in_list_reads b a (by simpa [PyData.canLay0] using c2) c1 (by omega) fin
  · obtain ⟨⟨bs, b⟩, c2⟩ := I.reads (by simpa [D.nb] using n2) r2 ry
    rw [D.toP] at b c2
    exact SeqAt.in_tuple_reads b a (by simpa [PyData.canLay0] using c2) c1 (by omega) fin
end
section
variable {K : PySem.W.Frag} {G H₀ L : Hp} {ss : List Sl} {t ta tb : TE} {d d1 d2 : D} {ds es : List D}
theorem ev_neD (a : EvB K G H₀ L ss ta d1) (b : EvB K G H₀ L ss tb d2) (n1 : d1.nb = true) (n2 : d2.nb = true) (hd : d1.dep ≤ 60) : Ev K G H₀ L ss (tOp (rNeD K) ta tb) (.bl (!decide (d1 = d2))) :=
  ev_op2 (w := .bl (!decide (d1 = d2))) a b (fun H x y Q r1 r2 q => ⟨d1, d2, r1, r2, n1, n2, hd, q⟩) fun _ _ _ _ _ _ => Rep.bl
theorem ev_inT (a : EvB K G H₀ L ss ta d) (b : EvB K G H₀ L ss tb (.tup ds)) (n1 : d.nb = true) (n2 : D.nbs ds = true) (hd : d.dep ≤ 60) : Ev K G H₀ L ss (tOp (rInD K false) ta tb) (.bl (decide (d ∈ ds))) :=
  ev_op2 (w := .bl (decide (d ∈ ds))) a b (fun H x y Q r1 r2 q => ⟨d, ds, r1, .inr r2, n1, n2, hd, q⟩) fun _ _ _ _ _ _ => Rep.bl
end
theorem D.nbs_map {α : Type} {enc : α → D} (h : ∀ x, (enc x).nb = true) : ∀ xs : List α, D.nbs (xs.map enc) = true
  | [] => rfl
  | x :: xs => by simp [D.nbs, h x, D.nbs_map h xs]
end L2

namespace L2
open PySem PySem.Spec PyProof.Rows
def ItOk (K : PySem.W.Frag) (J : It) (F' H' : Hp) (n : Nat) (y : Nat → D) : Prop := ∀ F2 H2, Same F' F2 → Same H' H2 → Same F2 H2 →
  (∀ i, i < n → J.go i H2 ∧ ∀ x H3, J.yld i H2 x H3 → ∃ F3, Ext F2 H2 F3 H3 ∧ Rep K F3 (y i) x) ∧ J.stop n H2
def EvI (K : PySem.W.Frag) (G H₀ L : Hp) (ss : List Sl) (wi : TI) (n : Nat) (y : Nat → D) : Prop := ∀ F H σ R, Sat K G H₀ L F H σ ss → (∀ F' H' J, Ext F H F' H' → ItOk K J F' H' n y → R J H') → wi σ H R
section
variable {K : PySem.W.Frag} {G H₀ L : Hp} {ss : List Sl}
theorem evi_list {tl : TE} {ds : List D} (a : EvL K G H₀ L ss tl ds) : EvI K G H₀ L ss (iList K tl) ds.length fun i => ds.getD i .non := fun F H σ R S q =>
  a F H σ _ S fun p vs F' H' e sq r => ⟨p, rfl, ⟨vs, sq⟩, q F' H' _ e fun F2 H2 f1 h1 fh => by
    have sq2 := SqL.same h1 sq
    have hl := r.length
    refine ⟨fun i hi => ⟨⟨vs, vs[i]'(by omega), sq2, List.getElem?_eq_getElem _⟩, fun x H3 y => ?_⟩, ⟨vs, sq2, by omega⟩⟩
    obtain ⟨rfl, y⟩ := y
    obtain ⟨d, hd, rd⟩ := r.get (y vs sq2)
    refine ⟨F2, Ext.refl fh, ?_⟩
    show Rep K F2 (ds.getD i D.non) x
    rw [List.getD_eq_getElem?_getD, hd]
    exact rd.mono f1⟩
theorem evi_str {tl : TE} {l : List Nat} (a : EvB K G H₀ L ss tl (.str l)) : EvI K G H₀ L ss (iStr tl) l.length fun i => .str [l.getD i 0] := fun F H σ R S q =>
  a F H σ _ S fun v F' H' e r => by
    have ha := r.asc
    rw [r.of_str]
    refine ⟨T l, rfl, q F' H' _ e fun F2 H2 f1 h1 fh => ?_⟩
    have ez : (T l).cps.toList = l := T_cps l
    refine ⟨fun i hi => ⟨by show i < _; rw [ez]; exact hi, fun x H3 y => ?_⟩, by show _ ≤ _; rw [ez]; exact Nat.le_refl _⟩
    obtain ⟨rfl, c, hc, rfl⟩ := y
    rw [ez] at hc
    refine ⟨F2, Ext.refl fh, ?_⟩
    have : l.getD i 0 = c := by rw [List.getD_eq_getElem?_getD, hc]; rfl
    show Rep K F2 (D.str [l.getD i 0]) _
    rw [this]
    exact Rep.str fun c' h' => by rw [List.mem_singleton.mp h']; exact ha c (List.mem_of_getElem? hc)
def lcSl (nt : Nat) (cs : List Nat) (ss : List Sl) : List Sl := List.replicate nt .un ++ cs.map fun i => ss.getD i .un
theorem Sat.lc {F H : Hp} {σ : St} {nt : Nat} {cs : List Nat} (S : Sat K G H₀ L F H σ ss) (hc : cs.Nodup) : Sat K G H₀ L F H (lcS nt cs σ) (lcSl nt cs ss) := by
  have cut : ∀ (i : Nat) s, (lcSl nt cs ss)[i]? = some s → s = .un ∨ ∃ j, nt ≤ i ∧ cs[i - nt]? = some j ∧ ss[j]? = some s := by
    intro i s h
    unfold lcSl at h
    by_cases hi : i < nt
    · rw [List.getElem?_append_left (by simpa using hi), List.getElem?_replicate, if_pos hi] at h
      exact .inl (Option.some.inj h).symm
    · rw [List.getElem?_append_right (by simpa using hi), List.length_replicate, List.getElem?_map] at h
      cases hj : cs[i - nt]? with
      | none => rw [hj] at h; cases h
      | some j =>
        rw [hj] at h
        have h : ss.getD j .un = s := Option.some.inj h
        rw [List.getD_eq_getElem?_getD] at h
        cases hs : ss[j]? with
        | none => rw [hs] at h; exact .inl h.symm
        | some s' => rw [hs] at h; exact .inr ⟨j, by omega, rfl, by rw [hs]; exact congrArg some h⟩
  have val : ∀ (i j : Nat), nt ≤ i → cs[i - nt]? = some j → (lcS nt cs σ).getD i none = σ.getD j none := by
    intro i j hi hj
    unfold lcS
    rw [List.getD_eq_getElem?_getD, List.getElem?_append_right (by simpa using hi), List.length_replicate, List.getElem?_map, hj]
    simp [List.getD_eq_getElem?_getD]
  refine ⟨S.ext, S.fl, by unfold lcS lcSl; simp, fun i s h => ?_, fun i s h => ?_, fun i j s s' hij h h' p hp => ?_⟩
  · rcases cut i s h with rfl | ⟨j, hi, hj, hs⟩
    · trivial
    · rw [val i j hi hj]; exact S.ok j s hs
  · rcases cut i s h with rfl | ⟨j, hi, hj, hs⟩
    · simp [Sl.ads]
    · exact S.nd j s hs
  · rcases cut i s h with rfl | ⟨k, hi, hk, hs⟩
    · simp [Sl.ads] at hp
    · rcases cut j s' h' with rfl | ⟨m, hj, hm, hs'⟩
      · simp [Sl.ads]
      · have : k ≠ m := fun z => by
          subst z
          obtain ⟨l1, e1⟩ := List.getElem?_eq_some_iff.mp hk
          obtain ⟨l2, e2⟩ := List.getElem?_eq_some_iff.mp hm
          have := (List.getElem_inj hc).mp (e1.trans e2.symm)
          omega
        exact S.ne k m s s' this hs hs' p hp
def GK (nt : Nat) (g : TG) : Prop := ∀ v σ H (Q Q' : St → Hp → Prop), (∀ σ' H', Q σ' H' → σ'.length = σ.length → σ'.drop nt = σ.drop nt → Q' σ' H') → g v σ H Q → g v σ H Q'
theorem gk_name {nt i : Nat} (h : i < nt) : GK nt (gName i) := fun v σ H Q Q' f q => f _ _ q (by simp) (by rw [List.drop_set_of_lt h])
theorem evo_lcI {wi : TI} {g : TG} {tt : TT} {te : TE} {nt : Nat} {cs : List Nat} {n : Nat} {y : Nat → D} (p : Nat → Bool) (f : Nat → D) (a : EvI K G H₀ L ss wi n y) (hk : GK nt g) (hc : cs.Nodup) (hz : n < sizeLine)
    (hs : ∀ i, i < n → ∃ ss', Tg K G H₀ L g (y i) (lcSl nt cs ss) ss' ∧ EvT K G H₀ L ss' tt (p i) ∧ (p i = true → Ev K G H₀ L ss' te (f i))) :
    EvO K G H₀ L ss (tLC nt cs wi g tt te) (((List.range n).filter p).map f) := fun F H σ Q S q =>
  a F H σ _ S fun F1 H1 J e1 it => by
    intro l hl
    have S1 := S.ext2 e1
    refine ⟨fun i m H2 => m = n - i ∧ i ≤ n ∧ ∃ F2 vs, Ext F1 H1 F2 H2 ∧ F2 l = none ∧ H2 l = some (.lst vs) ∧ Reps K F2 (((List.range i).filter p).map f) vs ∧ vs.length ≤ i,
      ⟨n, by omega, Nat.zero_le _, F1, [], (Ext.refl e1.fh).newO hl, e1.fh.free hl, upd_same, Reps.nil, Nat.le_refl _⟩, ?_⟩
    rintro i m H2 ⟨rfl, hi, F2, vs, e2, fl, hl2, rs, hvs⟩
    obtain ⟨it1, it2⟩ := it F2 H2 e2.gf e2.hh e2.fh
    by_cases hlt : i < n
    · obtain ⟨go, yl⟩ := it1 i hlt
      refine .inr ⟨go, fun H' => ∃ F2 vs, Ext F1 H1 F2 H' ∧ F2 l = none ∧ H' l = some (.lst vs) ∧ Reps K F2 (((List.range (i + 1)).filter p).map f) vs ∧ vs.length ≤ i + 1, fun H' h => ⟨n - (i + 1), by omega, rfl, hlt, h⟩, fun x H3 yx => ?_⟩
      obtain ⟨F3, e3, rx⟩ := yl x H3 yx
      obtain ⟨ss', tg, evt, ev⟩ := hs i hlt
      have S3 := ((S1.ext2 e2).ext2 e3).lc (nt := nt) hc
      have hl3 : H3 l = some (.lst vs) := e3.hh l _ hl2
      have fl3 : F3 l = none := (e3.no l _ hl2).trans fl
      have base := tg F3 H3 (lcS nt cs σ) x (fun σ2 H4 => H4 = H3 ∧ Sat K G H₀ L F3 H3 σ2 ss') S3 rx fun σ' S' => ⟨rfl, S'⟩
      have fin : ∀ σ2, Sat K G H₀ L F3 H3 σ2 ss' → tt σ2 H3 fun b H5 => if b = true then te σ2 H5 fun y H6 => ∃ xs, H6 l = some (.lst xs) ∧ xs.length < sizeLine ∧ (∃ F2 vs, Ext F1 H1 F2 (upd H6 l (.lst (xs ++ [y]))) ∧ F2 l = none ∧ (upd H6 l (.lst (xs ++ [y]))) l = some (.lst vs) ∧ Reps K F2 (((List.range (i + 1)).filter p).map f) vs ∧ vs.length ≤ i + 1) else ∃ F2 vs, Ext F1 H1 F2 H5 ∧ F2 l = none ∧ H5 l = some (.lst vs) ∧ Reps K F2 (((List.range (i + 1)).filter p).map f) vs ∧ vs.length ≤ i + 1 := fun σ2 S2 => by
        refine evt F3 H3 σ2 _ S2 fun F5 H5 e5 => ?_
        have S5 := S2.ext2 e5
        have hl5 : H5 l = some (.lst vs) := e5.hh l _ hl3
        have fl5 : F5 l = none := (e5.no l _ hl3).trans fl3
        have gf : Same F2 F5 := e3.gf.trans e5.gf
        cases hp : p i with
        | false =>
          refine iteF ⟨F5, vs, (e2.trans e3).trans e5, fl5, hl5, ?_, by omega⟩
          rw [List.range_succ, List.filter_append, List.filter_cons, hp]
          simpa using rs.mono gf
        | true =>
          refine iteT (ev hp F5 H5 σ2 _ S5 fun v F6 H6 e6 rv => ?_)
          have hl6 : H6 l = some (.lst vs) := e6.hh l _ hl5
          have fl6 : F6 l = none := (e6.no l _ hl5).trans fl5
          refine ⟨vs, hl6, by omega, F6, vs ++ [v], (((e2.trans e3).trans e5).trans e6).write fl6 hl, fl6, upd_same, ?_, by simp; omega⟩
          rw [List.range_succ, List.filter_append, List.filter_cons, hp, if_pos rfl, List.map_append]
          exact (rs.mono (gf.trans e6.gf)).snoc rv
      refine hk x (lcS nt cs σ) H3 _ _ (fun σ2 H4 h l1 d1 => ?_) base
      obtain ⟨rfl, S2⟩ := h
      exact ⟨⟨by rw [l1]; unfold lcS; simp, d1⟩, fin σ2 S2⟩
    · have e : i = n := by omega
      subst e
      exact .inl ⟨it2, q l vs F2 H2 (e1.trans e2) (e1.hh.free hl) fl hl2 rs⟩
end
end L2

namespace L2
open PySem PySem.W PyProof.Rows
section
variable (key : Nat → Int)
def kk (p : Array Nat) (i : Nat) : Int := key (p.getD i 0)
variable {key}
end
end L2

namespace L2
open PySem PySem.W PyProof.Rows
section
variable {prog : Program} {w : World} {A : Around} {E : Value → Shared → Prop} {s : Shared}
def Keeps (h h' : Heap) : Prop := ∀ b o, h.get? b = some o → h'.get? b = some o
end
end L2

namespace L2
open PySem PySem.W PyProof.Rows
end L2

namespace L2
open PySem PySem.W PyProof.Rows
def D.fo : D → List Int
  | .str l => l.map Int.ofNat
  | .int i => [i]
  | _ => []
def D.ord : D → List (List Int)
  | .tup ds => ds.map D.fo
  | .lst ds => ds.map D.fo
  | d => [d.fo]
inductive Ty where | s | i
def Ty.ok : Ty → D → Bool
  | .s, .str _ => true
  | .i, .int _ => true
  | _, _ => false
section
variable {prog : Program} {w : World} {A : Around} {E : Value → Shared → Prop} {s : Shared}
def FV : D → Value → Prop
  | .str l, u => ∃ t, u = .str (T l) t
  | .int i, u => ∃ t, u = .int i t
  | _, _ => False
inductive FVs : List D → List Value → Prop
  | nil : FVs [] []
  | cons {d ds u us} : FV d u → FVs ds us → FVs (d :: ds) (u :: us)
end
end L2

set_option maxHeartbeats 1000000
namespace L2
open PySem PySem.W PyProof.Rows
end L2

namespace L2
open PySem PySem.W PyProof.Rows
structure MI (R : Nat → Nat → Prop) (ua ub o : List Nat) (i j : Nat) : Prop where
  hi : i ≤ ua.length
  hj : j ≤ ub.length
  pw : o.Pairwise R
  pa : ∀ x ∈ o, ∀ y ∈ ua.drop i, R x y
  pb : ∀ x ∈ o, ∀ y ∈ ub.drop j, R x y
  pm : o.Perm (ua.take i ++ ub.take j)
end L2

set_option maxHeartbeats 2000000
namespace L2
open PySem PySem.W PyProof.Rows
end L2

namespace L2
open PySem PySem.W PyProof.Rows
end L2

namespace L2
open PySem PySem.W PyProof.Rows
def Seg (key : Nat → Int) (p : Array Nat) (i j : Nat) : Prop := ∀ s t, i ≤ s → s ≤ t → t < j → kk key p s ≤ kk key p t
end L2

namespace L2
open PySem PySem.W PyProof.Rows
end L2

namespace L2
open PySem PySem.W PyProof.Rows
def Runs (key : Nat → Int) (p : Array Nat) : List (Nat × Nat × Nat) → Nat → Nat → Prop
  | [], lo, hi => lo = hi
  | r :: l, lo, hi => r.1 = lo ∧ 0 < r.2.1 ∧ Seg key p lo (lo + r.2.1) ∧ Runs key p l (lo + r.2.1) hi
end L2

set_option maxHeartbeats 4000000
namespace L2
open PySem PySem.W PyProof.Rows
section
variable {X : Cx} {pins : List (Addr × Obj)} {σ : St} {H : Hp} {s : Shared}
def Ty.tv : Ty → Value
  | .s => .type "str"
  | .i => .type "int"
end
end L2

set_option maxHeartbeats 2000000
namespace L2
open PySem PySem.W PySem.Spec PyProof.Rows
def cutD (xs : List D) (lo hi : Option Int) : List D := (xs.drop (HT.sIx xs.length 0 lo)).take (HT.sIx xs.length xs.length hi - HT.sIx xs.length 0 lo)
theorem Reps.cut {K : PySem.W.Frag} {H : Hp} {ds : List D} {xs : List V} (lo hi : Option Int) (h : Reps K H ds xs) : Reps K H (cutD ds lo hi) (cutV xs lo hi) := by
  unfold cutD cutV
  rw [← h.length]
  exact (h.drop _).take _
section
variable {K : PySem.W.Frag} {G H₀ L : Hp} {ss : List Sl} {t ta tb : TE} {d : D} {ds : List D}
theorem ev_lenL (a : EvL K G H₀ L ss t ds) : Ev K G H₀ L ss (tCB (fun xs H Q => ∃ p ys, xs = [.ref p] ∧ (SqL K H p ys ∨ SqT K H p ys) ∧ Q (.int ys.length) H) (tCons t tNil)) (.int ds.length) := fun F H σ Q S q =>
  a F H σ _ S fun p vs F' H' e sq r => ⟨p, vs, rfl, .inl sq, q _ _ _ e (by rw [← r.length]; exact Rep.int)⟩
theorem ev_lenS {l : List Nat} (a : EvB K G H₀ L ss t (.str l)) (hz : l.length ≤ sizeLine) : Ev K G H₀ L ss (tCB (fun xs H Q => ∃ z : Str, xs = [.str z] ∧ z.length ≤ sizeLine ∧ Q (.int z.length) H) (tCons t tNil)) (.int l.length) := fun F H σ Q S q =>
  a F H σ _ S fun v F' H' e r => by
    rw [r.of_str]
    exact ⟨T l, rfl, by rw [T_len]; exact hz, q _ _ _ e (by rw [T_len]; exact Rep.int)⟩
def EvP (K : PySem.W.Frag) (G H₀ L : Hp) (ss : List Sl) (t : TO) (o : Option Int) : Prop := ∀ F H σ (Q : Option Int → Hp → Prop), Sat K G H₀ L F H σ ss → (∀ F' H', Ext F H F' H' → Q o H') → t σ H Q
theorem evp_no : EvP K G H₀ L ss tNoPart none := fun F H σ Q S q => q _ _ (Ext.refl S.ext.fh)
theorem evp_part {i : Int} (a : EvB K G H₀ L ss t (.int i)) : EvP K G H₀ L ss (tPart t) (some i) := fun F H σ Q S q => a F H σ _ S fun v F' H' e r => ⟨i, r.of_int, q _ _ e⟩
theorem evo_slL {tl th : TO} {lo hi : Option Int} (a : EvL K G H₀ L ss t ds) (b : EvP K G H₀ L ss tl lo) (c : EvP K G H₀ L ss th hi) : EvO K G H₀ L ss (tSl (rSlL K) t tl th) (cutD ds lo hi) := fun F H σ Q S q =>
  a F H σ _ S fun p vs F1 H1 e1 sq r => b F1 H1 σ _ (S.ext2 e1) fun F2 H2 e2 => c F2 H2 σ _ ((S.ext2 e1).ext2 e2) fun F3 H3 e3 =>
    ⟨p, vs, rfl, SqL.same e3.hh (SqL.same e2.hh sq), fun l hl => q l _ F3 _ (((e1.trans e2).trans e3).newO hl) (((e1.trans e2).trans e3).hh.free hl) (((e1.trans e2).trans e3).fh.free hl) upd_same (((r.mono e2.gf).mono e3.gf).cut lo hi)⟩
theorem ev_slS {tl th : TO} {lo hi : Option Int} {l : List Nat} (a : EvB K G H₀ L ss t (.str l)) (b : EvP K G H₀ L ss tl lo) (c : EvP K G H₀ L ss th hi) (hz : l.length ≤ sizeLine) : Ev K G H₀ L ss (tSl rSlS t tl th) (.str (cutL l lo hi)) := fun F H σ Q S q =>
  a F H σ _ S fun v F1 H1 e1 r => b F1 H1 σ _ (S.ext2 e1) fun F2 H2 e2 => c F2 H2 σ _ ((S.ext2 e1).ext2 e2) fun F3 H3 e3 =>
    ⟨l, r.of_str, hz, q _ _ _ ((e1.trans e2).trans e3) (Rep.str fun c hc => r.asc c (List.mem_of_mem_drop (List.mem_of_mem_take hc)))⟩
def glue (z : List Nat) : List (List Nat) → List Nat
  | [] => []
  | [x] => x
  | x :: y :: r => x ++ z ++ glue z (y :: r)
end
theorem glue_T (z : List Nat) : ∀ ls : List (List Nat), Str.join (T z) (ls.map T) = T (glue z ls)
  | [] => rfl
  | [x] => rfl
  | x :: y :: r => by
    have ih := glue_T z (y :: r)
    rw [List.map_cons] at ih
    rw [List.map_cons, List.map_cons]
    show T x ++ T z ++ Str.join (T z) (T y :: r.map T) = _
    rw [ih, T_app, T_app]; rfl
theorem glue_asc {z : List Nat} (hz : ∀ c ∈ z, c < 128) : ∀ {ls : List (List Nat)}, (∀ l ∈ ls, ∀ c ∈ l, c < 128) → ∀ c ∈ glue z ls, c < 128
  | [], _, c, h => by cases h
  | [x], hl, c, h => hl x List.mem_cons_self c h
  | x :: y :: r, hl, c, h => by
    rw [glue] at h
    rcases List.mem_append.mp h with h | h
    · rcases List.mem_append.mp h with h | h
      · exact hl x List.mem_cons_self c h
      · exact hz c h
    · exact glue_asc hz (ls := y :: r) (fun l hm => hl l (List.mem_cons_of_mem _ hm)) c h
theorem Reps.strs {K : PySem.W.Frag} {H : Hp} : ∀ {ls : List (List Nat)} {vs : List V}, Reps K H (ls.map D.str) vs → vs = (ls.map T).map V.str ∧ ∀ l ∈ ls, ∀ c ∈ l, c < 128
  | [], vs, h => by rw [List.map_nil, Reps] at h; subst h; exact ⟨rfl, by simp⟩
  | l :: ls, vs, h => by
    rw [List.map_cons, Reps] at h
    obtain ⟨x, xs, rfl, h1, h2⟩ := h
    obtain ⟨e, ha⟩ := h2.strs
    refine ⟨by rw [h1.of_str, e]; rfl, fun m hm => ?_⟩
    rcases List.mem_cons.mp hm with rfl | hm
    · exact h1.asc
    · exact ha m hm
section
variable {K : PySem.W.Frag} {G H₀ L : Hp} {ss : List Sl} {t ta tb : TE} {d : D} {ds : List D}
theorem ev_join {z : List Nat} {ls : List (List Nat)} (a : EvB K G H₀ L ss ta (.str z)) (b : EvL K G H₀ L ss t (ls.map D.str)) (hz : (ls.map List.length).sum + ls.length * z.length ≤ 16777216) : Ev K G H₀ L ss (tBM K "str" (rJoin K) ta (tCons t tNil)) (.str (glue z ls)) := fun F H σ Q S q =>
  a F H σ _ S fun v F1 H1 e1 r1 => by
    rw [r1.of_str]
    refine ⟨rfl, b F1 H1 σ _ (S.ext2 e1) fun p vs F2 H2 e2 sq r2 => ?_⟩
    obtain ⟨rfl, ha⟩ := r2.strs
    refine ⟨T z, p, ls.map T, rfl, rfl, sq, ?_, ?_⟩
    · rw [List.map_map, List.length_map, T_len, show ((fun x : Str => x.length) ∘ T) = List.length from funext fun l => T_len l]; exact hz
    · rw [glue_T]
      exact q _ _ _ (e1.trans e2) (Rep.str (glue_asc r1.asc ha))
end
def stripL (goes : Nat → Bool) (l : List Nat) : List Nat := ((l.dropWhile goes).reverse.dropWhile goes).reverse
theorem drop_takeWhile (g : Nat → Bool) : ∀ l : List Nat, l.drop (l.takeWhile g).length = l.dropWhile g
  | [] => rfl
  | x :: l => by
    rw [List.takeWhile_cons, List.dropWhile_cons]
    cases g x with
    | true => simp only [if_true, List.length_cons, List.drop_succ_cons]; exact drop_takeWhile g l
    | false => rfl
theorem strip_T (l y : List Nat) : Txt.stripChars (T l) (T y) = T (stripL y.contains l) := by
  have ct : (T y).cps.contains = y.contains := by funext c; simp [T]
  have key : PySem.stripped y.contains true true (T l) = T (stripL y.contains l) := by
    unfold PySem.stripped PySem.stripLo PySem.stripHi
    simp only [if_true, T_cps, T_len]
    rw [drop_takeWhile]
    have h1 : (l.takeWhile y.contains).length + (l.dropWhile y.contains).length = l.length := by
      rw [← List.length_append, List.takeWhile_append_dropWhile]
    have e : Builtin.Str.strSub (T l) (l.takeWhile y.contains).length (l.length - ((l.dropWhile y.contains).reverse.takeWhile y.contains).length) = T ((l.drop (l.takeWhile y.contains).length).take (l.length - ((l.dropWhile y.contains).reverse.takeWhile y.contains).length - (l.takeWhile y.contains).length)) := by
      unfold Builtin.Str.strSub
      congr 1
      apply Array.toList_inj.mp
      rw [Array.toList_extract]
      show List.extract (T l).cps.toList _ _ = _
      rw [T_cps]
    rw [e, drop_takeWhile]
    congr 1
    unfold stripL
    have h2 := drop_takeWhile y.contains (l.dropWhile y.contains).reverse
    rw [← h2]
    have h3 : ((l.dropWhile y.contains).reverse.takeWhile y.contains).length ≤ (l.dropWhile y.contains).length := by
      have := (List.takeWhile_sublist (p := y.contains) (l := (l.dropWhile y.contains).reverse)).length_le
      simpa using this
    rw [List.drop_reverse, List.reverse_reverse]
    congr 1; omega
  unfold Txt.stripChars Txt.stripBy
  rw [ct]
  split
  · rename_i h
    rw [← key]
    unfold stripSame at h
    simp only [Bool.and_eq_true, beq_iff_eq] at h
    unfold PySem.stripped
    rw [h.2, h.1]
    unfold Builtin.Str.strSub
    have : (T l).cps.extract 0 (T l).length = (T l).cps := by
      show (T l).cps.extract 0 (T l).cps.size = _
      simp
    rw [this]
  · exact key
def rStripC : V → List V → Hp → VK → Prop := fun x vs H Q => ∃ z y, x = .str z ∧ vs = [.str y] ∧ z.length ≤ sizeLine ∧ Q (.str (Txt.stripChars z y)) H
section
variable {X : Cx}
theorem mt_stripC : MtR X "str.strip" rStripC := by
  intro pins s σ H x xs v us Q I rx rs h
  obtain ⟨z, y, rfl, rfl, hz, q⟩ := h
  obtain ⟨t, rfl⟩ := rx
  obtain ⟨u, rfl, ru⟩ := Vals.one rs
  obtain ⟨u, rfl⟩ := ru
  exact SC.stripChars (fun t' k => ⟨.str _, H, I.tok _, ⟨_, rfl⟩, q⟩) hz
end
section
variable {K : PySem.W.Frag} {G H₀ L : Hp} {ss : List Sl} {t ta tb : TE} {d : D} {ds : List D}
theorem ev_strip {l y : List Nat} (a : EvB K G H₀ L ss ta (.str l)) (b : EvB K G H₀ L ss t (.str y)) (hz : l.length ≤ sizeLine) : Ev K G H₀ L ss (tBM K "str" rStripC ta (tCons t tNil)) (.str (stripL y.contains l)) := fun F H σ Q S q =>
  a F H σ _ S fun v F1 H1 e1 r1 => by
    rw [r1.of_str]
    refine ⟨rfl, b F1 H1 σ _ (S.ext2 e1) fun v2 F2 H2 e2 r2 => ?_⟩
    refine ⟨T l, T y, rfl, by rw [r2.of_str], by rw [T_len]; exact hz, ?_⟩
    rw [strip_T]
    refine q _ _ _ (e1.trans e2) (Rep.str fun c hc => r1.asc c ?_)
    unfold stripL at hc
    exact (List.dropWhile_sublist _).subset (List.mem_reverse.mp ((List.dropWhile_sublist _).subset (List.mem_reverse.mp hc)))
end
end L2

namespace L2
open PySem PySem.W PySem.Spec PyProof.Rows
def rAll (K : PySem.W.Frag) : List V → Hp → VK → Prop := fun xs H Q => ∃ p, ∃ bs : List Bool, xs = [.ref p] ∧ SqL K H p (bs.map V.bl) ∧ Q (.bl (bs.all id)) H
section
variable {X : Cx} {prog : Program} {w : World} {A : Around} {E : Value → Shared → Prop} {s : Shared}
theorem old_kept {h' : Heap} {o : Obj} {k : Nat} (hk : ∀ b x, b ∉ [s.heap.objs.size] → (s.heap.push o).get? b = some x → h'.get? b = some x) : Keeps s.heap h' := fun b x e => by
  refine hk b x (fun hm => ?_) (Heap.get?_push_of_some _ e)
  have h1 := Heap.lt_size e
  rw [List.mem_singleton.mp hm] at h1
  exact Nat.lt_irrefl _ h1
theorem vals_bl : ∀ {bs : List Bool} {us : List Value}, Vals (bs.map V.bl) us → us = bs.map Value.bool
  | [], _, .nil => rfl
  | b :: bs, _, .cons r1 r2 => by rw [vals_bl r2]; cases r1; rfl
theorem range_allB : ∀ bs : List Bool, ((List.range bs.length).all fun i => (bs[i]?).getD true) = bs.all id := fun bs => by
  rw [Bool.eq_iff_iff, List.all_eq_true, List.all_eq_true]
  constructor
  · intro h b hb
    obtain ⟨i, hi, e⟩ := List.getElem_of_mem hb
    have := h i (List.mem_range.mpr hi)
    rw [List.getElem?_eq_getElem hi, Option.getD_some, e] at this
    exact this
  · intro h i hi
    have hi' := List.mem_range.mp hi
    rw [List.getElem?_eq_getElem hi', Option.getD_some]
    exact h _ (List.getElem_mem hi')
theorem call_all (hc : X.calm = true) : CallR X (.builtin "all") (rAll X.K) := by
  intro pins s σ H xs us Q I r h
  obtain ⟨p, bs, rfl, hq, q⟩ := h
  obtain ⟨u, rfl, ru⟩ := vals1 r
  cases ru
  obtain ⟨its, rv, pl, _⟩ := I.list hq
  obtain rfl := vals_bl rv
  have hl := pl.isList
  have hlt : p < s.heap.objs.size := by obtain ⟨_, e, _⟩ := hl; exact Heap.lt_size e
  refine call_all_walk (wpAny_pyIter_list hl ⟨s.heap.objs.size, [s.heap.objs.size, p], [s.heap.objs.size], (bs.map Value.bool).toArray.size, _, _, fun i => (bs[i]?).getD true, rfl,
    Walks.list (A := X.A.in1) (I.ok.hd hc) _ p (Nat.ne_of_lt hlt) _, ⟨⟨_, Heap.get?_push_size _ rfl, rfl, rfl⟩, hl.push _⟩, fun i v s' Q' E' hP hQ => ?_, fun h' tk hk => ?_⟩)
  · have hP' : (bs.map Value.bool)[i]? = some v := by simpa using hP
    rw [List.getElem?_map] at hP'
    cases hb : bs[i]? with
    | none => rw [hb] at hP'; cases hP'
    | some b =>
      rw [hb] at hP'
      cases hP'
      simp only [hb, Option.getD_some] at hQ
      exact wpAny_truthy_bool hQ
  · have e : ((List.range (bs.map Value.bool).toArray.size).all fun i => (bs[i]?).getD true) = bs.all id := by
      rw [List.size_toArray, List.length_map]; exact range_allB bs
    rw [e]
    exact ⟨.bl _, H, I.kept (old_kept (k := 0) hk), rfl, q⟩
def two (x y : Str) (t u : Tok) : Array Value := #[.str x t, .str y u]
theorem two_at {x y : Str} {t u : Tok} : ∀ (i : Nat) (v : Value), (two x y t u)[i]? = some v → ∃ k, v = .str (if i = 0 then x else y) k
  | 0, v, h => ⟨t, by simp [two] at h; simp [h.symm]⟩
  | 1, v, h => ⟨u, by simp [two] at h; simp [h.symm]⟩
  | i + 2, v, h => by simp [two] at h
theorem min_two_texts {x y : Str} {t u : Tok} {Q : Value → Shared → Prop} (hh : A.handled = none)
    (h : ∀ h' tk, Keeps s.heap h' → Q (if y.cps.toList < x.cps.toList then .str y u else .str x t) { s with heap := h', toks := tk }) : wpAny (model prog w) A (call (.builtin "min") [.str x t, .str y u]) Q E s := by
  have hT : (s.heap.push { cls := .type "tuple", data := .seq (two x y t u) }).IsTuple s.heap.objs.size (two x y t u) := ⟨_, Heap.get?_push_size _ rfl, rfl, 0, rfl⟩
  have hsz : (s.heap.push { cls := .type "tuple", data := .seq (two x y t u) }).objs.size = s.heap.objs.size + 1 := Heap.size_push ..
  refine call_min_two (wpAny_pyIter_tuple hT ?_)
  refine ⟨_, [_, s.heap.objs.size], [_], _, _, _, fun i j => decide ((if i = 0 then x else y).cps.toList < (if j = 0 then x else y).cps.toList), rfl, Walks.tuple (A := A.in1) hh _ s.heap.objs.size (Nat.ne_of_lt (by rw [Heap.size_push]; omega)) (two x y t u), ⟨⟨_, Heap.get?_push_size _ rfl, rfl, rfl⟩, hT.push _⟩, fun c hc => ?_, by simp [two], ?_, fun v h' tk hP hk => ?_⟩
  · show c < ((s.heap.push _).push _).objs.size
    rw [Heap.size_push, Heap.size_push]
    simp only [List.mem_cons, List.not_mem_nil, or_false] at hc
    rcases hc with rfl | rfl
    · rw [Heap.size_push]; exact Nat.lt_succ_self _
    · exact Nat.lt_succ_of_lt (Nat.lt_succ_self _)
  · intro i j vi vj s' Q' E' hi hj hq
    obtain ⟨k1, rfl⟩ := two_at i vi hi
    obtain ⟨k2, rfl⟩ := two_at j vj hj
    exact richCompare_gives (op := .Lt) (typeIs_str _ _ _) (typeIs_str _ _ _) F.slot_str_lt F.entry_str_lt (F.args_str_lt_2 _ _) (gives_str_lt _ _ _ _) (fun e => nomatch e) hq
  · have hold : Keeps s.heap h' := fun c o e => by
      have h1 := Heap.lt_size e
      refine hk c o (fun hm => ?_) (Heap.get?_push_of_some _ (Heap.get?_push_of_some _ e))
      rw [List.mem_singleton.mp hm, Heap.size_push] at h1; exact absurd (Nat.lt_of_succ_lt h1) (Nat.lt_irrefl _)
    have := h h' tk hold
    have hsz2 : (two x y t u).size - 1 = 1 := by simp [two]
    have hP' : (two x y t u)[argBest (fun i j => decide ((if i = 0 then x else y).cps.toList < (if j = 0 then x else y).cps.toList)) 1]? = some v := by rw [← hsz2]; exact hP
    by_cases hyx : y.cps.toList < x.cps.toList
    · have e : argBest (fun i j => decide ((if i = 0 then x else y).cps.toList < (if j = 0 then x else y).cps.toList)) 1 = 1 := by simp [argBest, hyx]
      rw [e] at hP'
      rw [if_pos hyx] at this
      simp [two] at hP'
      rw [← hP']; exact this
    · have e : argBest (fun i j => decide ((if i = 0 then x else y).cps.toList < (if j = 0 then x else y).cps.toList)) 1 = 0 := by simp [argBest, hyx]
      rw [e] at hP'
      rw [if_neg hyx] at this
      simp [two] at hP'
      rw [← hP']; exact this
theorem max_two_texts {x y : Str} {t u : Tok} {Q : Value → Shared → Prop} (hh : A.handled = none)
    (h : ∀ h' tk, Keeps s.heap h' → Q (if x.cps.toList < y.cps.toList then .str y u else .str x t) { s with heap := h', toks := tk }) : wpAny (model prog w) A (call (.builtin "max") [.str x t, .str y u]) Q E s := by
  have hT : (s.heap.push { cls := .type "tuple", data := .seq (two x y t u) }).IsTuple s.heap.objs.size (two x y t u) := ⟨_, Heap.get?_push_size _ rfl, rfl, 0, rfl⟩
  have hsz : (s.heap.push { cls := .type "tuple", data := .seq (two x y t u) }).objs.size = s.heap.objs.size + 1 := Heap.size_push ..
  refine call_max_two (wpAny_pyIter_tuple hT ?_)
  refine ⟨_, [_, s.heap.objs.size], [_], _, _, _, fun i j => decide ((if j = 0 then x else y).cps.toList < (if i = 0 then x else y).cps.toList), rfl, Walks.tuple (A := A.in1) hh _ s.heap.objs.size (Nat.ne_of_lt (by rw [Heap.size_push]; omega)) (two x y t u), ⟨⟨_, Heap.get?_push_size _ rfl, rfl, rfl⟩, hT.push _⟩, fun c hc => ?_, by simp [two], ?_, fun v h' tk hP hk => ?_⟩
  · show c < ((s.heap.push _).push _).objs.size
    rw [Heap.size_push, Heap.size_push]
    simp only [List.mem_cons, List.not_mem_nil, or_false] at hc
    rcases hc with rfl | rfl
    · rw [Heap.size_push]; exact Nat.lt_succ_self _
    · exact Nat.lt_succ_of_lt (Nat.lt_succ_self _)
  · intro i j vi vj s' Q' E' hi hj hq
    obtain ⟨k1, rfl⟩ := two_at i vi hi
    obtain ⟨k2, rfl⟩ := two_at j vj hj
    exact richCompare_gives (op := .Gt) (typeIs_str _ _ _) (typeIs_str _ _ _) F.slot_str_gt F.entry_str_gt (F.args_str_gt_2 _ _) (gives_str_gt _ _ _ _) (fun e => nomatch e) hq
  · have hold : Keeps s.heap h' := fun c o e => by
      have h1 := Heap.lt_size e
      refine hk c o (fun hm => ?_) (Heap.get?_push_of_some _ (Heap.get?_push_of_some _ e))
      rw [List.mem_singleton.mp hm, Heap.size_push] at h1; exact absurd (Nat.lt_of_succ_lt h1) (Nat.lt_irrefl _)
    have := h h' tk hold
    have hsz2 : (two x y t u).size - 1 = 1 := by simp [two]
    have hP' : (two x y t u)[argBest (fun i j => decide ((if j = 0 then x else y).cps.toList < (if i = 0 then x else y).cps.toList)) 1]? = some v := by rw [← hsz2]; exact hP
    by_cases hyx : x.cps.toList < y.cps.toList
    · have e : argBest (fun i j => decide ((if j = 0 then x else y).cps.toList < (if i = 0 then x else y).cps.toList)) 1 = 1 := by simp [argBest, hyx]
      rw [e] at hP'
      rw [if_pos hyx] at this
      simp [two] at hP'
      rw [← hP']; exact this
    · have e : argBest (fun i j => decide ((if j = 0 then x else y).cps.toList < (if i = 0 then x else y).cps.toList)) 1 = 0 := by simp [argBest, hyx]
      rw [e] at hP'
      rw [if_neg hyx] at this
      simp [two] at hP'
      rw [← hP']; exact this
theorem call_minS (hc : X.calm = true) : CallR X (.builtin "min") (fun xs H Q => ∃ l m : List Nat, xs = [.str (T l), .str (T m)] ∧ Q (.str (T (if m < l then m else l))) H) := by
  intro pins s σ H xs us Q I r h
  obtain ⟨l, m, rfl, q⟩ := h
  obtain ⟨u, w', rfl, ⟨t, rfl⟩, ⟨t', rfl⟩⟩ := vals2 r
  refine min_two_texts (I.ok.hd hc) fun h' tk k => ⟨_, H, I.kept k, ?_, q⟩
  rw [T_cps, T_cps]
  split <;> exact ⟨_, rfl⟩
theorem call_maxS (hc : X.calm = true) : CallR X (.builtin "max") (fun xs H Q => ∃ l m : List Nat, xs = [.str (T l), .str (T m)] ∧ Q (.str (T (if l < m then m else l))) H) := by
  intro pins s σ H xs us Q I r h
  obtain ⟨l, m, rfl, q⟩ := h
  obtain ⟨u, w', rfl, ⟨t, rfl⟩, ⟨t', rfl⟩⟩ := vals2 r
  refine max_two_texts (I.ok.hd hc) fun h' tk k => ⟨_, H, I.kept k, ?_, q⟩
  rw [T_cps, T_cps]
  split <;> exact ⟨_, rfl⟩
end
end L2

namespace L2
open PySem PySem.W PySem.Spec PyProof.Rows PySem.Calls
open PySem.MeetsSeq PySem.MeetsSeq2 PySem.MeetsSeq3
section
variable {K : PySem.W.Frag} {G H₀ L : Hp} {ss : List Sl} {t ta tb : TE} {d : D} {ds es : List D}
theorem Reps.bools {H : Hp} : ∀ {bs : List Bool} {vs : List V}, Reps K H (bs.map D.bl) vs → vs = bs.map V.bl
  | [], vs, h => by rw [List.map_nil, Reps] at h; exact h
  | b :: bs, vs, h => by
    rw [List.map_cons, Reps] at h
    obtain ⟨x, xs, rfl, h1, h2⟩ := h
    rw [h1.of_bl, h2.bools]; rfl
theorem ev_all {bs : List Bool} (a : EvL K G H₀ L ss t (bs.map D.bl)) : Ev K G H₀ L ss (tCB (rAll K) (tCons t tNil)) (.bl (bs.all id)) := fun F H σ Q S q =>
  a F H σ _ S fun p vs F1 H1 e1 sq r1 => ⟨p, bs, rfl, by rw [r1.bools] at sq; exact sq, q _ _ _ e1 Rep.bl⟩
def minL (l m : List Nat) : List Nat := if m < l then m else l
def maxL (l m : List Nat) : List Nat := if l < m then m else l
theorem ev_minS {l m : List Nat} (a : EvB K G H₀ L ss ta (.str l)) (b : EvB K G H₀ L ss tb (.str m)) : Ev K G H₀ L ss (tCB (fun xs H Q => ∃ l m : List Nat, xs = [.str (T l), .str (T m)] ∧ Q (.str (T (if m < l then m else l))) H) (tCons ta (tCons tb tNil))) (.str (minL l m)) := fun F H σ Q S q =>
  a F H σ _ S fun v F1 H1 e1 r1 => b F1 H1 σ _ (S.ext2 e1) fun v2 F2 H2 e2 r2 => ⟨l, m, by rw [r1.of_str, r2.of_str], q _ _ _ (e1.trans e2) (Rep.str (by unfold minL; split; exact r2.asc; exact r1.asc))⟩
theorem ev_maxS {l m : List Nat} (a : EvB K G H₀ L ss ta (.str l)) (b : EvB K G H₀ L ss tb (.str m)) : Ev K G H₀ L ss (tCB (fun xs H Q => ∃ l m : List Nat, xs = [.str (T l), .str (T m)] ∧ Q (.str (T (if l < m then m else l))) H) (tCons ta (tCons tb tNil))) (.str (maxL l m)) := fun F H σ Q S q =>
  a F H σ _ S fun v F1 H1 e1 r1 => b F1 H1 σ _ (S.ext2 e1) fun v2 F2 H2 e2 r2 => ⟨l, m, by rw [r1.of_str, r2.of_str], q _ _ _ (e1.trans e2) (Rep.str (by unfold maxL; split; exact r2.asc; exact r1.asc))⟩
end
end L2

namespace L2
open PySem PySem.W PySem.Spec PyProof.Rows
def slots (n : Nat) (ds : List D) : List Sl := ds.map Sl.d ++ List.replicate (n - ds.length) .un
section
variable {K : PySem.W.Frag} {H : Hp} {vs : List V} {Q : VK} {X : XK} {N : List Str} {t : TS} {pre : List D → Prop}
theorem sat_start {G : Hp} {ds : List D} (sm : Same G H) (r : Reps K G ds vs) (hN : vs.length ≤ N.length) : Sat K G H G G H (start N vs) (slots N.length ds) := by
  have hl := r.length
  have ads : ∀ (i : Nat) s, (slots N.length ds)[i]? = some s → s.ads = [] := fun i s hs => by
    have hm := List.mem_of_getElem? hs
    unfold slots at hm
    rcases List.mem_append.mp hm with h | h
    · obtain ⟨d, _, rfl⟩ := List.mem_map.mp h; rfl
    · rw [List.eq_of_mem_replicate h]; rfl
  refine ⟨Ext.refl sm, Same.refl _, ?_, fun i s hs => ?_, fun i s hs => by rw [ads i s hs]; exact List.nodup_nil, fun i j s s' _ hs _ p hp => by rw [ads i s hs] at hp; cases hp⟩
  · unfold start slots; simp; omega
  · by_cases hi : i < ds.length
    · have e : (slots N.length ds)[i]? = some (.d ds[i]) := by
        unfold slots
        rw [List.getElem?_append_left (by simpa using hi), List.getElem?_map, List.getElem?_eq_getElem hi]; rfl
      rw [e] at hs
      cases hs
      obtain ⟨v, hv, rv⟩ := r.get' (List.getElem?_eq_getElem hi)
      refine ⟨v, ?_, rv⟩
      unfold start
      rw [List.getD_eq_getElem?_getD, List.getElem?_append_left (by simp; omega), List.getElem?_map, hv]; rfl
    · have hm : s = .un := by
        unfold slots at hs
        rw [List.getElem?_append_right (by simp; omega)] at hs
        exact List.eq_of_mem_replicate (List.mem_of_getElem? hs)
      rw [hm]; trivial
theorem go_spD {res : List D → D} (h : SpD K pre res vs H Q X) (hN : vs.length ≤ N.length) (body : ∀ G ds, pre ds → RtD K G H Q (res ds) → Go K G H G { nx := fun _ H' => Q .non H', rt := Q } (slots N.length ds) t) : t { nx := fun _ H' => Q .non H', rt := Q } (start N vs) H := by
  obtain ⟨G, ds, sm, r, hp, q⟩ := h
  exact body G ds hp (fun v F H' e r => q v F H' e r) G H _ (sat_start sm r hN)
theorem go_spO {res : List D → List D} (h : SpO K pre res vs H Q X) (hN : vs.length ≤ N.length) (body : ∀ G ds, pre ds → RtO K G H Q (res ds) → Go K G H G { nx := fun _ H' => Q .non H', rt := Q } (slots N.length ds) t) : t { nx := fun _ H' => Q .non H', rt := Q } (start N vs) H := by
  obtain ⟨G, ds, sm, r, hp, q⟩ := h
  exact body G ds hp (fun p ws F H' e h1 h2 h3 r => q p ws F H' e h1 h2 h3 r) G H _ (sat_start sm r hN)
theorem spD_len {res : List D → D} {n : Nat} (hpre : ∀ ds, pre ds → ds.length = n) (h : SpD K pre res vs H Q X) : vs.length = n := by
  obtain ⟨G, ds, sm, r, hp, q⟩ := h
  rw [← r.length]; exact hpre ds hp
theorem spO_len {res : List D → List D} {n : Nat} (hpre : ∀ ds, pre ds → ds.length = n) (h : SpO K pre res vs H Q X) : vs.length = n := by
  obtain ⟨G, ds, sm, r, hp, q⟩ := h
  rw [← r.length]; exact hpre ds hp
end
section
variable {K : PySem.W.Frag} {G H₀ L : Hp} {ss : List Sl} {t ta tb : TE} {d : D} {ds es : List D} {i j : Int}
theorem ev_mod (a : EvB K G H₀ L ss ta (.int i)) (b : EvB K G H₀ L ss tb (.int j)) (h : 0 < j) : Ev K G H₀ L ss (tOp (rI (fun _ j => 0 < j) fun i j => .int (i % j)) ta tb) (.int (i % j)) := ev_opI (C := fun _ j => 0 < j) (g := fun i j => i % j) a b h
theorem ev_mul (a : EvB K G H₀ L ss ta (.int i)) (b : EvB K G H₀ L ss tb (.int j)) (h : CMul i j) : Ev K G H₀ L ss (tOp (rI CMul fun i j => .int (i * j)) ta tb) (.int (i * j)) := ev_opI (C := CMul) (g := fun i j => i * j) a b h
theorem ev_fdiv (a : EvB K G H₀ L ss ta (.int i)) (b : EvB K G H₀ L ss tb (.int j)) (h : CDiv i j) : Ev K G H₀ L ss (tOp (rI CDiv fun i j => .int (i / j)) ta tb) (.int (i / j)) := ev_opI (C := CDiv) (g := fun i j => i / j) a b h
theorem ev_lt (a : EvB K G H₀ L ss ta (.int i)) (b : EvB K G H₀ L ss tb (.int j)) : Ev K G H₀ L ss (tOp (rI0 fun i j => .bl (decide (i < j))) ta tb) (.bl (decide (i < j))) := ev_cmpI (g := fun i j => decide (i < j)) a b
end
theorem sIx_at (n d : Nat) {a : Int} (h : 0 ≤ a) : HT.sIx n d (some a) = min a.toNat n := by
  show (if a < 0 then (a + (n : Int)).toNat else min a.toNat n) = _
  rw [if_neg (by omega)]
theorem cutD_to (m : List D) {a : Int} (h : 0 ≤ a) : cutD m none (some a) = m.take a.toNat := by
  unfold cutD
  rw [sIx_at _ _ h, show HT.sIx m.length 0 none = 0 from rfl, List.drop_zero, Nat.sub_zero, ← List.take_eq_take_min]
theorem cutD_from (m : List D) {b : Int} (h : 0 ≤ b) : cutD m (some b) none = m.drop b.toNat := by
  unfold cutD
  rw [sIx_at _ _ h, show HT.sIx m.length m.length none = m.length from rfl, List.take_of_length_le (by rw [List.length_drop]; omega)]
  by_cases hh : b.toNat ≤ m.length
  · rw [Nat.min_eq_left hh]
  · rw [Nat.min_eq_right (by omega), List.drop_length, List.drop_eq_nil_of_le (by omega)]
end L2

namespace L2
open PySem PySem.W PySem.Spec PyProof.Rows
theorem range_fm {α β : Type} (xs : List α) (z : α) (p : α → Bool) (f : α → β) : ((List.range xs.length).filter fun i => p (xs.getD i z)).map (fun i => f (xs.getD i z)) = (xs.filter p).map f := by
  have e : xs = (List.range xs.length).map fun i => xs.getD i z := by
    refine List.ext_getElem? fun i => ?_
    rw [List.getElem?_map]
    by_cases hi : i < xs.length
    · rw [List.getElem?_range hi, List.getElem?_eq_getElem hi]; simp [List.getD_eq_getElem?_getD, hi]
    · rw [List.getElem?_eq_none (by omega), List.getElem?_eq_none (by simp; omega)]; rfl
  conv => rhs; rw [e]
  rw [List.filter_map, List.map_map]
  rfl
section
variable {K : PySem.W.Frag} {G H₀ L : Hp} {ss : List Sl}
theorem evo_lcX {α : Type} (xs : List α) (enc : α → D) (p : α → Bool) (f : α → D) {tl : TE} {g : TG} {tt : TT} {te : TE} {nt : Nat} {cs : List Nat} (a : EvL K G H₀ L ss tl (xs.map enc)) (hk : GK nt g) (hc : cs.Nodup) (hz : xs.length < sizeLine)
    (hs : ∀ x ∈ xs, ∃ ss', Tg K G H₀ L g (enc x) (lcSl nt cs ss) ss' ∧ EvT K G H₀ L ss' tt (p x) ∧ (p x = true → Ev K G H₀ L ss' te (f x))) :
    EvO K G H₀ L ss (tLC nt cs (iList K tl) g tt te) ((xs.filter p).map f) := by
  cases xs with
  | nil =>
    have := evo_lcI (p := fun _ => true) (f := fun _ => .non) (tt := tt) (te := te) (evi_list a) hk hc (by simpa using hz) (fun i hi => by simp at hi)
    simpa using this
  | cons z zs =>
    have hl : ((z :: zs).map enc).length = (z :: zs).length := by simp
    have := evo_lcI (p := fun i => p ((z :: zs).getD i z)) (f := fun i => f ((z :: zs).getD i z)) (tt := tt) (te := te) (evi_list a) hk hc (by rw [hl]; exact hz) (fun i hi => by
      rw [hl] at hi
      have hm : (z :: zs).getD i z ∈ (z :: zs) := by
        rw [List.getD_eq_getElem?_getD, List.getElem?_eq_getElem hi]; exact List.getElem_mem hi
      have e : ((z :: zs).map enc).getD i .non = enc ((z :: zs).getD i z) := by
        rw [List.getD_eq_getElem?_getD, List.getElem?_map, List.getD_eq_getElem?_getD, List.getElem?_eq_getElem hi]; rfl
      rw [e]
      exact hs _ hm)
    rw [hl, range_fm] at this
    exact this
theorem evt_true : EvT K G H₀ L ss tTrue true := fun F H σ Q S q => q _ _ (Ext.refl S.ext.fh)
theorem evo_lcM {α : Type} (xs : List α) (enc : α → D) (f : α → D) {tl : TE} {g : TG} {te : TE} {nt : Nat} {cs : List Nat} (a : EvL K G H₀ L ss tl (xs.map enc)) (hk : GK nt g) (hc : cs.Nodup) (hz : xs.length < sizeLine)
    (hs : ∀ x ∈ xs, ∃ ss', Tg K G H₀ L g (enc x) (lcSl nt cs ss) ss' ∧ Ev K G H₀ L ss' te (f x)) :
    EvO K G H₀ L ss (tLC nt cs (iList K tl) g tTrue te) (xs.map f) := by
  have := evo_lcX xs enc (fun _ => true) f a hk hc hz (tt := tTrue) (te := te) fun x hx => by
    obtain ⟨ss', h1, h2⟩ := hs x hx
    exact ⟨ss', h1, evt_true, fun _ => h2⟩
  rw [show xs.filter (fun _ => true) = xs from List.filter_eq_self.mpr (by simp)] at this
  exact this
theorem ev_joinM {α : Type} {z : List Nat} {xs : List α} {g : α → List Nat} {ta t : TE} (a : EvB K G H₀ L ss ta (.str z)) (b : EvL K G H₀ L ss t (xs.map fun x => D.str (g x))) (hz : ((xs.map g).map List.length).sum + xs.length * z.length ≤ 16777216) : Ev K G H₀ L ss (tBM K "str" (rJoin K) ta (tCons t tNil)) (.str (glue z (xs.map g))) := by
  refine ev_join a ?_ (by rw [List.length_map (f := g)]; exact hz)
  rw [List.map_map]; exact b
theorem ev_allM {α : Type} {xs : List α} {g : α → Bool} {t : TE} (b : EvL K G H₀ L ss t (xs.map fun x => D.bl (g x))) : Ev K G H₀ L ss (tCB (rAll K) (tCons t tNil)) (.bl (xs.all g)) := by
  have := ev_all (K := K) (G := G) (H₀ := H₀) (L := L) (ss := ss) (t := t) (bs := xs.map g) (by rw [List.map_map]; exact b)
  rw [List.all_map] at this
  exact this
end
theorem glue_nil : ∀ ls : List (List Nat), glue [] ls = ls.flatten
  | [] => rfl
  | [x] => by simp [glue]
  | x :: y :: r => by rw [glue, glue_nil (y :: r)]; simp
theorem glue_one {α : Type} (xs : List α) (g : α → Nat) : glue [] (xs.map fun x => [g x]) = xs.map g := by
  rw [glue_nil]
  induction xs with
  | nil => rfl
  | cons x xs ih => simp [ih]
end L2

set_option maxHeartbeats 4000000
namespace L2T
open PySem

structure TOk (t : SetTable) : Prop where
  pl : t.place.toList.Pairwise (· < ·)
  du : t.dummies.toList.Pairwise (· < ·)
  ple : ∀ j ∈ t.place.toList, j ≤ t.mask
  dle : ∀ j ∈ t.dummies.toList, j ≤ t.mask
  dis : ∀ j ∈ t.dummies.toList, j ∉ t.place.toList
  pow : ∃ k, t.mask + 1 = 2 ^ (k + 3)
  big : t.mask ≤ 8191

end L2T

namespace L2T
open PySem SetTable

def advM (mask : Nat) (p : Probe) : Probe :=
  if p.more > 0 then { p with j := p.j + 1, more := p.more - 1 } else
  let (i, perturb) := leap mask p.i p.perturb
  { p with j := i, more := runEnd mask i - i, i, perturb }
def stM (mask i perturb : Nat) : Probe := { j := i, more := runEnd mask i - i, i, perturb, dummy := none }
def prM (mask : Nat) (h : Int) : Nat → Probe
  | 0 => stM mask (bits h % (mask + 1)) (bits h)
  | n + 1 => advM mask (prM mask h n)
def posM (mask : Nat) (h : Int) (n : Nat) : Nat := (prM mask h n).j

def Reach (t : SetTable) (h : Int) (j : Nat) : Prop := ∃ n, posM t.mask h n = j ∧ ∀ m, m < n → t.slot (posM t.mask h m) ≠ .empty

end L2T

namespace L2T
open PySem SetTable

structure SOk {α : Type} (t : SetTable) (es : List (Int × α)) : Prop where
  ok : TOk t
  room : t.fill * 5 < t.mask * 3
  size : t.place.size = es.length
  reach : ∀ c ∈ t.place.toList.zip es, Reach t c.2.1 c.1

def lives (mask : Nat) (owner : Array (Option Nat)) : List (Nat × Nat) := (List.range (mask + 1)).filterMap fun j => (owner.getD j none).map (j, ·)

structure LInv (mask : Nat) (hs : List Int) (owner : Array (Option Nat)) : Prop where
  size : owner.size = mask + 1
  perm : ((lives mask owner).map (·.2)).Perm (List.range hs.length)
  reach : ∀ j i, owner.getD j none = some i → ∃ h, hs[i]? = some h ∧ ∃ n, posM mask h n = j ∧ ∀ q, q < n → owner.getD (posM mask h q) (some 0) ≠ none

end L2T

namespace L2T
open PySem SetTable

end L2T

namespace L2
open PySem PySem.Spec PyProof.Rows L2T

inductive SK where
  | one (k : Key)
  | many (ks : List Key)
  deriving DecidableEq
def SK.flat : SK → Bool
  | .one _ => true
  | .many _ => false
section
variable (prog : Program) (w : World)
def SK.is (h : Heap) : SK → Value → Prop
  | .one k, v => (mixKind prog w).is k v = true
  | .many ks, v => ∃ a, v = .ref a ∧ IsTupleKey (mixKind prog w) h ks a
def SK.hash : SK → Int
  | .one k => (mixKind prog w).hash k
  | .many ks => tupleKeyHash (mixKind prog w) ks
inductive Es (h : Heap) : List SK → List (Int × Value) → Prop
  | nil : Es h [] []
  | cons {k : SK} {e : Int × Value} {ks : List SK} {es : List (Int × Value)} : e.1 = k.hash prog w → k.is prog w h e.2 → Es h ks es → Es h (k :: ks) (e :: es)
def led0 : Bool := !w.params.followText "set-order"
structure SetO (h : Heap) (o : Obj) (ks : List SK) (es : Array (Int × Value)) (ep : Nat) (t : SetTable) : Prop where
  ex : o.ExactSet
  data : o.data = .set es ep t
  tab : SOk t es.toList
  ent : Es prog w h ks es.toList
  nod : ks.Nodup
  small : ks.length ≤ 1000
  led : t.led = led0 w
  kind : ∃ f, ∀ k ∈ ks, k.flat = f
end
end L2

namespace L2
open PySem PySem.Spec PyProof.Rows L2T
end L2

namespace L2
open PySem PySem.Spec PyProof.Rows L2T
end L2

namespace L2
open PySem PySem.Spec PyProof.Rows L2T
section
variable {prog : Program} {w : World} {A : Around} {E : Value → Shared → Prop} {s : Shared}
theorem small_fits {n : Nat} (h : n ≤ 1001) : n ≤ sizeLine := by rw [sizeLine_eq]; omega
end
end L2

namespace L2
open PySem PySem.Spec PyProof.Rows L2T
section
variable {prog : Program} {w : World} {A : Around} {E : Value → Shared → Prop} {s : Shared}
structure SetL (w : World) (o : Obj) (es : Array (Int × Value)) (ep : Nat) (t : SetTable) : Prop where
  data : o.data = .set es ep t
  tab : SOk t es.toList
  led : t.led = led0 w
end
end L2

namespace L2
open PySem PySem.Spec PyProof.Rows L2T
end L2

namespace L2
open PySem PySem.Spec PyProof.Rows L2T
end L2

namespace L2
open PySem PySem.Spec PyProof.Rows L2T
section
variable {prog : Program} {w : World} {A : Around} {E : Value → Shared → Prop} {s : Shared}
structure Part (prog : Program) (w : World) (k0 : List SK) (items : Array Value) (i : Nat) (ks : List SK) (es : Array (Int × Value)) : Prop where
  mem : ∀ k, k ∈ ks ↔ ∃ j : Nat, j < i ∧ k0[j]? = some k
  len : ks.length ≤ i
  ent : ∀ e ∈ es.toList, ∃ j : Nat, items[j]? = some e.2
end
end L2

namespace L2
open PySem PySem.Spec PyProof.Rows L2T
end L2

namespace L2
open PySem PySem.Spec PyProof.Rows L2T
end L2

namespace L2
open PySem PySem.Spec PyProof.Rows L2T
section
variable {prog : Program} {w : World} {A : Around} {E : Value → Shared → Prop} {s : Shared}
structure Took (kb : List SK) (p : SK → Bool) (es0 : List (Int × Value)) (kd : List SK) (kr : List SK) (er : Array (Int × Value)) : Prop where
  mem : ∀ k, k ∈ kr ↔ k ∈ kb ∨ (k ∈ kd ∧ p k = true)
  len : kr.length ≤ kb.length + kd.length
  ent : ∀ e ∈ er.toList, e ∈ es0
end
end L2

namespace L2
open PySem PySem.Spec PyProof.Rows L2T
end L2

namespace L2
open PySem PySem.Spec PyProof.Rows L2T
end L2

namespace L2
open PySem PySem.Spec PyProof.Rows L2T
end L2

namespace L2
open PySem PySem.Spec PyProof.Rows L2T
end L2

namespace L2
open PySem PySem.Spec PyProof.Rows L2T
end L2

namespace L2
open PySem PySem.Spec PyProof.Rows L2T
end L2

namespace L2
open PySem PySem.Spec PyProof.Rows L2T
def D.kk : D → Key
  | .int i => .inl i
  | .str l => .inr (T l)
  | _ => .inl 0
def D.fl : D → Bool
  | .int _ => true
  | .str _ => true
  | _ => false
def D.hk : Bool → D → Bool
  | true, d => d.fl
  | false, .tup ds => ds.all D.fl
  | false, _ => false
end L2

namespace L2
open PySem PySem.Spec PyProof.Rows L2T
end L2

namespace L2
open PySem PySem.W PyProof.Rows L2T
end L2

namespace L2
open PySem PySem.W PyProof.Rows L2T
end L2

namespace L2
open PySem PySem.W PyProof.Rows L2T
end L2

namespace L2
open PySem PySem.W PyProof.Rows L2T
def rCatD (K : PySem.W.Frag) : R2 := fun x y H Q => ∃ l b xs zs, x = .ref l ∧ y = .ref b ∧ SqL K H l xs ∧ SqL K H b zs ∧ xs.length + zs.length ≤ sizeLine ∧ ∀ p, H p = none → Q (.ref p) (upd H p (.lst (xs ++ zs)))
theorem op_catD {X : Cx} : OpR X (binaryOp .Add) (rCatD X.K) := by
  intro pins s σ H x y v u Q I rx ry h
  obtain ⟨l, b, xs, zs, rfl, rfl, hl, hb, hz, q⟩ := h
  cases rx
  cases ry
  obtain ⟨its, r, pl, _⟩ := I.list hl
  obtain ⟨its2, r2, pl2, _⟩ := I.list hb
  have z1 := r.length
  have z2 := r2.length
  obtain ⟨⟨cls, dd, data, sl⟩, ho, hc, n, hd⟩ := pl.isList
  obtain ⟨⟨cls2, dd2, data2, sl2⟩, ho2, hc2, n2, hd2⟩ := pl2.isList
  dsimp only at hc hd hc2 hd2
  subst hc; subst hd; subst hc2; subst hd2
  refine concat_meets ⟨_, ho, rfl⟩ ⟨_, ho2, rfl⟩ noFill_list_add seq_list_add PySem.F.slot_list_add PySem.F.entry_list_add (PySem.F.args_list_add_2 _ _) (list_addW l b its.toArray its2.toArray n n2 dd dd2 sl sl2 (by simp; omega)) ⟨ho, ho2, ?_⟩
  have ea : its.toArray ++ its2.toArray = (its ++ its2).toArray := by simp
  rw [ea]
  exact ⟨.ref _, _, I.lnew (t' := s.toks) (r.append r2) (by rw [List.length_append]; omega), rfl, q _ I.fresh⟩
section
variable {K : PySem.W.Frag} {G H₀ L : Hp} {ss : List Sl} {ta tb : TE} {da db : List D}
theorem evo_cat (a : EvL K G H₀ L ss ta da) (b : EvL K G H₀ L ss tb db) (hz : da.length + db.length ≤ sizeLine) : EvO K G H₀ L ss (tOp (rCatD K) ta tb) (da ++ db) := fun F H σ Q S q =>
  a F H σ _ S fun p vs F1 H1 e1 sq1 r1 => b F1 H1 σ _ (S.ext2 e1) fun p2 vs2 F2 H2 e2 sq2 r2 => by
    have l1 := r1.length
    have l2 := r2.length
    refine ⟨p, p2, vs, vs2, rfl, rfl, SqL.same e2.hh sq1, sq2, by omega, fun l hl => ?_⟩
    have e12 := e1.trans e2
    exact q l _ F2 _ (e12.newO hl) (e12.hh.free hl) (e12.fh.free hl) upd_same ((r1.mono e2.gf).append r2)
theorem ev_const {d : D} {v : V} (r : ∀ H, Rep K H d v) : Ev K G H₀ L ss (tC v) d := fun F H σ Q S q => q _ _ _ (Ext.refl S.ext.fh) (r _)
end
theorem reps_strs {K : PySem.W.Frag} {H : Hp} : ∀ (ls : List (List Nat)), (∀ l ∈ ls, ∀ c ∈ l, c < 128) → Reps K H (ls.map .str) (ls.map fun l => .str (T l))
  | [], _ => Reps.nil
  | l :: ls, h => Reps.cons (Rep.str (h l List.mem_cons_self)) (reps_strs ls fun l' hl => h l' (List.mem_cons_of_mem _ hl))
theorem valsT_strs : ∀ {ls : List (List Nat)} {us : List Value}, ls.length = us.length → (∀ (i : Nat) (l : List Nat) (u : Value), ls[i]? = some l → us[i]? = some u → ∃ t, u = .str (T l) t) → Vals (ls.map fun l => V.str (T l)) us
  | [], us, hl, _ => by cases us with
    | nil => exact .nil
    | cons _ _ => simp at hl
  | l :: ls, us, hl, h => by cases us with
    | nil => simp at hl
    | cons u us => exact .cons (h 0 l u rfl rfl) (valsT_strs (by simpa using hl) fun i l' u' h1 h2 => h (i + 1) l' u' h1 h2)
def TupK (K : PySem.W.Frag) (a : Addr) (ls : List (List Nat)) : Prop := ∀ H, Rep K H (.tup (ls.map .str)) (.ref a)
theorem tupK_of {K : PySem.W.Frag} {a : Addr} {o : Obj} {its : Array Value} {n : Nat} {ls : List (List Nat)} (hk : K.lookup a = some o) (hc : o.cls = .type "tuple") (hd : o.data = .seq its n) (hl : ls.length = its.size) (hs : ls.length ≤ 1000) (ha : ∀ l ∈ ls, ∀ c ∈ l, c < 128)
    (h : ∀ (i : Nat) (l : List Nat) (u : Value), ls[i]? = some l → its.toList[i]? = some u → ∃ t, u = .str (T l) t) : TupK K a ls := fun H =>
  Rep.tup (.inr ⟨o, its, n, hk, hc, hd, by rw [← hl]; exact small_fits (by omega), valsT_strs (by simpa using hl) h⟩) (reps_strs ls ha)
end L2

namespace L2
open PySem PySem.W PyProof.Rows L2T
end L2

namespace L2
open PySem PySem.W PyProof.Rows L2T
end L2

namespace L2
open PySem PySem.W PyProof.Rows L2T
def rUpper : V → List V → Hp → VK → Prop := fun x vs H Q => ∃ z, x = .str z ∧ vs = [] ∧ Builtin.Str.tooLong (Txt.upper z).length = false ∧ Q (.str (Txt.upper z)) H
theorem mt_upper {X : Cx} : MtR X "str.upper" rUpper := by
  intro pins s σ H x xs v us Q I rx rs h
  obtain ⟨z, rfl, rfl, hz, q⟩ := h
  obtain ⟨t, rfl⟩ := rx
  cases rs
  exact SC.upper hz ⟨.str _, H, I.tok _, ⟨_, rfl⟩, q⟩
end L2

namespace L2
open PySem PySem.W PySem.Spec PyProof.Rows
end L2

namespace L2
open PySem PySem.W PySem.Spec PyProof.Rows
end L2

namespace L2
open PySem PySem.W PyProof.Rows L2T
section
variable {K : PySem.W.Frag} {G H₀ L : Hp} {ss : List Sl} {ta tb t : TE}
theorem ev_maxI {i j : Int} (a : EvB K G H₀ L ss ta (.int i)) (b : EvB K G H₀ L ss tb (.int j)) : Ev K G H₀ L ss (tCB (fun xs H Q => ∃ i j, xs = [.int i, .int j] ∧ Q (.int (if j > i then j else i)) H) (tCons ta (tCons tb tNil))) (.int (if j > i then j else i)) := fun F H σ Q S q =>
  a F H σ _ S fun v F1 H1 e1 r1 => b F1 H1 σ _ (S.ext2 e1) fun v2 F2 H2 e2 r2 => by
    rw [r1.of_int, r2.of_int]
    exact ⟨i, j, rfl, q _ F2 H2 (e1.trans e2) Rep.int⟩
theorem ev_minI {i j : Int} (a : EvB K G H₀ L ss ta (.int i)) (b : EvB K G H₀ L ss tb (.int j)) : Ev K G H₀ L ss (tCB (fun xs H Q => ∃ i j, xs = [.int i, .int j] ∧ Q (.int (if j < i then j else i)) H) (tCons ta (tCons tb tNil))) (.int (if j < i then j else i)) := fun F H σ Q S q =>
  a F H σ _ S fun v F1 H1 e1 r1 => b F1 H1 σ _ (S.ext2 e1) fun v2 F2 H2 e2 r2 => by
    rw [r1.of_int, r2.of_int]
    exact ⟨i, j, rfl, q _ F2 H2 (e1.trans e2) Rep.int⟩
theorem ev_gt {i j : Int} (a : EvB K G H₀ L ss ta (.int i)) (b : EvB K G H₀ L ss tb (.int j)) : Ev K G H₀ L ss (tOp (rI0 fun i j => .bl (decide (j < i))) ta tb) (.bl (decide (j < i))) := ev_cmpI (g := fun i j => decide (j < i)) a b
end
end L2

namespace L2
open PySem PySem.W PySem.Spec PyProof.Rows
def SpRD (K : PySem.W.Frag) (pre : List D → Prop) (R : List D → D → Prop) : Sp := fun vs H Q _ => ∃ G ds, Same G H ∧ Reps K G ds vs ∧ pre ds ∧ ∀ r, R ds r → ∀ v G' H', Ext G H G' H' → Rep K G' r v → Q v H'
section
variable {K : PySem.W.Frag} {H : Hp} {vs : List V} {Q : VK} {X : XK} {N : List Str} {t : TS} {pre : List D → Prop} {R : List D → D → Prop}
theorem go_spRD (h : SpRD K pre R vs H Q X) (hN : vs.length ≤ N.length) (body : ∀ G ds, pre ds → (∀ r, R ds r → RtD K G H Q r) → Go K G H G { nx := fun _ H' => Q .non H', rt := Q } (slots N.length ds) t) : t { nx := fun _ H' => Q .non H', rt := Q } (start N vs) H := by
  obtain ⟨G, ds, sm, r, hp, q⟩ := h
  exact body G ds hp (fun rs hR v F H' e r => q rs hR v F H' e r) G H _ (sat_start sm r hN)
theorem spRD_len {n : Nat} (hpre : ∀ ds, pre ds → ds.length = n) (h : SpRD K pre R vs H Q X) : vs.length = n := by
  obtain ⟨G, ds, sm, r, hp, q⟩ := h
  rw [← r.length]; exact hpre ds hp
end
section
variable {K : PySem.W.Frag} {G H₀ L : Hp} {ss : List Sl} {t : TA} {ds : List D} {pre : List D → Prop} {R : List D → D → Prop} {E : XK} {D0 : Ends} {ta tb te : TE} {i j : Int}
theorem go_asgRD {g : TG} (a : EvAF K G H₀ L ss t ds) (hp : pre ds) (h : ∀ r, R ds r → ∃ ss', Tg K G H₀ L g r ss ss' ∧ Nx K G H₀ L D0.nx ss') : Go K G H₀ L D0 ss (tAsg (tCall (SpRD K pre R) [] E t) g) := fun F H σ S =>
  a F H σ _ S fun vs F1 H1 e1 r1 => ⟨F1, ds, e1.fh, by rw [List.append_nil]; exact r1, hp, fun r hR v G' H' e2 rr => by
    obtain ⟨ss', tg, nx⟩ := h r hR
    exact tg _ H' σ _ _ (S.ext2 (e1.trans e2)) rr fun σ' S' => nx _ H' σ' S'⟩
theorem ev_isI (a : EvB K G H₀ L ss te (.int i)) : Ev K G H₀ L ss (tCB (fun xs H Q => ∃ x, xs = [.int x, .ty "int"] ∧ Q (.bl true) H) (tCons te (tCons (tC (.ty "int")) tNil))) (.bl true) := fun F H σ Q S q =>
  a F H σ _ S fun v F1 H1 e1 r1 => ⟨i, by rw [r1.of_int], q _ _ _ e1 Rep.bl⟩
theorem ev_isIB (a : EvB K G H₀ L ss te (.int i)) : Ev K G H₀ L ss (tCB (fun xs H Q => ∃ x, xs = [.int x, .ty "bool"] ∧ Q (.bl false) H) (tCons te (tCons (tC (.ty "bool")) tNil))) (.bl false) := fun F H σ Q S q =>
  a F H σ _ S fun v F1 H1 e1 r1 => ⟨i, by rw [r1.of_int], q _ _ _ e1 Rep.bl⟩
theorem ev_neg (a : EvB K G H₀ L ss te (.int i)) : Ev K G H₀ L ss (tUn (rU fun i => .int (-i)) te) (.int (-i)) := fun F H σ Q S q =>
  a F H σ _ S fun v F1 H1 e1 r1 => ⟨i, by rw [r1.of_int], q _ _ _ e1 Rep.int⟩
end
end L2

namespace L2
open PySem PySem.W PySem.Spec PyProof.Rows PySem.Builtin PySem.Builtin.Str PySem.StrLaws
def posL (z : Nat) : Nat → List Nat → List Nat
  | _, [] => []
  | a, x :: l => if x = z then a :: posL z (a + 1) l else posL z (a + 1) l
theorem sub_one (pre l : List Nat) (z : Nat) : subAt (T (pre ++ l)) (T [z]) pre.length = decide (l.head? = some z) := by
  rw [Bool.eq_iff_iff, decide_eq_true_eq]
  have h := subAt_one (T (pre ++ l)) z pre.length
  have e : (⟨#[z]⟩ : Str) = T [z] := rfl
  rw [e] at h
  have hc : (T (pre ++ l)).cps.toList = pre ++ l := T_cps _
  rw [hc] at h
  have hl : (T (pre ++ l)).length = pre.length + l.length := by rw [T_len, List.length_append]
  have hz : (T [z]).length = 1 := T_len _
  have hg : (pre ++ l)[pre.length]? = l.head? := by
    rw [List.getElem?_append_right (Nat.le_refl _), Nat.sub_self]; cases l <;> rfl
  rw [hg, hl, hz] at h
  constructor
  · intro hs
    by_cases hl0 : l = []
    · subst hl0
      exfalso
      unfold subAt at hs
      simp [T, Str.length] at hs
    · have : 1 ≤ l.length := by cases l with | nil => exact absurd rfl hl0 | cons _ _ => simp
      exact h.mp ⟨by omega, hs⟩
  · intro hs
    exact (h.mpr hs).2
theorem occ_scan (z : Nat) (n : Nat) : ∀ (l pre : List Nat) (free : Nat) (acc : Array Nat), free ≤ pre.length →
    (forIn (List.range' pre.length (l.length + 1)) (acc, free) (occBody (T (pre ++ l)) (T [z]) (pre.length + l.length) n)).run.fst.toList = acc.toList ++ (posL z pre.length l).take (n - acc.size)
  | [], pre, free, acc, hf => by
    rw [List.length_nil, Nat.zero_add, List.range'_succ, List.range'_zero, List.forIn_cons]
    unfold occBody
    rw [if_neg (by rintro ⟨⟨_, h⟩, _⟩; rw [T_len] at h; simp at h; omega)]
    show acc.toList = _
    simp [posL]
  | x :: l, pre, free, acc, hf => by
    rw [List.length_cons, List.range'_succ, List.forIn_cons]
    have hs := sub_one pre (x :: l) z
    have e2 : pre ++ x :: l = (pre ++ [x]) ++ l := by simp
    have e3 : pre.length + (l.length + 1) = (pre ++ [x]).length + l.length := by simp; omega
    have e4 : pre.length + 1 = (pre ++ [x]).length := by simp
    have hz : (T [z]).length = 1 := T_len _
    conv => lhs; unfold occBody
    by_cases hx : x = z
    · have hs' : subAt (T (pre ++ x :: l)) (T [z]) pre.length = true := by rw [hs]; simp [hx]
      by_cases hn : acc.size < n
      · rw [if_pos ⟨⟨⟨hn, hf⟩, by rw [hz]; omega⟩, hs'⟩]
        show (forIn (List.range' (pre.length + 1) (l.length + 1)) (acc.push pre.length, pre.length + (T [z]).length) (occBody (T (pre ++ x :: l)) (T [z]) (pre.length + (l.length + 1)) n)).run.fst.toList = _
        rw [e2, e3, e4, occ_scan z n l (pre ++ [x]) _ _ (by rw [hz]; simp)]
        rw [posL, if_pos hx, Array.toList_push, Array.size_push, ← e4]
        rw [show n - acc.size = (n - (acc.size + 1)) + 1 by omega, List.take_succ_cons, List.append_assoc]
        rfl
      · rw [if_neg (by rintro ⟨⟨⟨h, _⟩, _⟩, _⟩; exact hn h)]
        show (forIn (List.range' (pre.length + 1) (l.length + 1)) (acc, free) (occBody (T (pre ++ x :: l)) (T [z]) (pre.length + (l.length + 1)) n)).run.fst.toList = _
        rw [e2, e3, e4, occ_scan z n l (pre ++ [x]) _ _ (by simp; omega), show n - acc.size = 0 by omega]
        simp
    · have hs' : ¬ subAt (T (pre ++ x :: l)) (T [z]) pre.length = true := by rw [hs]; simp [hx]
      rw [if_neg (by rintro ⟨_, h⟩; exact hs' h)]
      show (forIn (List.range' (pre.length + 1) (l.length + 1)) (acc, free) (occBody (T (pre ++ x :: l)) (T [z]) (pre.length + (l.length + 1)) n)).run.fst.toList = _
      rw [e2, e3, e4, occ_scan z n l (pre ++ [x]) _ _ (by simp; omega), posL, if_neg hx, ← e4]
theorem occ_pos (z n : Nat) (l : List Nat) : occurrences (T l) (T [z]) 0 (T l).length n = (posL z 0 l).take n := by
  rw [occ_eq, T_len]
  have := occ_scan z n l [] 0 #[] (Nat.le_refl _)
  simpa using this
def splitN (z : Nat) : Nat → List Nat → List (List Nat)
  | 0, l => [l]
  | n + 1, l => match l.dropWhile (· != z) with
    | [] => [l]
    | _ :: b => l.takeWhile (· != z) :: splitN z n b
def cutsAt (s : Str) : Nat → List Nat → List Str
  | a, [] => [strSub s a s.length]
  | a, p :: r => strSub s a p :: cutsAt s (p + 1) r
theorem parts_cuts (s : Str) : ∀ (ps : List Nat) (a : Nat), (((a :: ps.map (· + 1)).zip (ps ++ [s.length])).map fun (i, j) => strSub s i j) = cutsAt s a ps
  | [], a => rfl
  | p :: r, a => by
    show strSub s a p :: _ = strSub s a p :: _
    rw [← parts_cuts s r (p + 1)]
    rfl
theorem sub_mid (a b c : List Nat) : strSub (T (a ++ b ++ c)) a.length (a.length + b.length) = T b := by
  unfold strSub T
  congr 1
  apply Array.toList_inj.mp
  simp [List.take_append]
theorem pos_none {z : Nat} : ∀ {l : List Nat} (a : Nat), z ∉ l → posL z a l = []
  | [], _, _ => rfl
  | x :: l, a, h => by
    rw [posL, if_neg (fun e => h (by simp [e])), pos_none _ fun h' => h (List.mem_cons_of_mem _ h')]
theorem pos_app {z : Nat} : ∀ (l b : List Nat) (a : Nat), z ∉ l → posL z a (l ++ z :: b) = (a + l.length) :: posL z (a + l.length + 1) b
  | [], b, a, _ => by simp [posL]
  | x :: l, b, a, h => by
    rw [List.cons_append, posL, if_neg (fun e => h (by simp [e])), pos_app l b (a + 1) fun h' => h (List.mem_cons_of_mem _ h')]
    rw [List.length_cons, show a + 1 + l.length = a + (l.length + 1) by omega]
theorem drop_split {z : Nat} : ∀ l : List Nat, (l.dropWhile (· != z) = [] ∧ z ∉ l) ∨ ∃ b, l.dropWhile (· != z) = z :: b ∧ l = l.takeWhile (· != z) ++ z :: b ∧ z ∉ l.takeWhile (· != z)
  | [] => .inl ⟨rfl, by simp⟩
  | x :: l => by
    by_cases hx : x = z
    · subst hx; exact .inr ⟨l, by simp, by simp, by simp⟩
    · have e1 : (x :: l).dropWhile (· != z) = l.dropWhile (· != z) := by simp [List.dropWhile_cons, hx]
      have e2 : (x :: l).takeWhile (· != z) = x :: l.takeWhile (· != z) := by simp [List.takeWhile_cons, hx]
      rw [e1, e2]
      rcases drop_split (z := z) l with ⟨h1, h2⟩ | ⟨b, h1, h2, h3⟩
      · exact .inl ⟨h1, by simp [h2]; exact fun e => hx e.symm⟩
      · refine .inr ⟨b, h1, by rw [List.cons_append, ← h2], ?_⟩
        simp only [List.mem_cons, not_or]
        exact ⟨fun e => hx e.symm, h3⟩
theorem cuts_split (z : Nat) : ∀ (n : Nat) (pre l : List Nat), cutsAt (T (pre ++ l)) pre.length ((posL z pre.length l).take n) = (splitN z n l).map T
  | 0, pre, l => by
    have := sub_mid pre l []
    rw [List.append_nil] at this
    show [strSub (T (pre ++ l)) pre.length (T (pre ++ l)).length] = [T l]
    rw [T_len, List.length_append, this]
  | n + 1, pre, l => by
    rcases drop_split (z := z) l with ⟨h1, h2⟩ | ⟨b, h1, h2, h3⟩
    · rw [pos_none _ h2, splitN, h1]
      have := sub_mid pre l []
      rw [List.append_nil] at this
      show [strSub (T (pre ++ l)) pre.length (T (pre ++ l)).length] = [T l]
      rw [T_len, List.length_append, this]
    · have e : splitN z (n + 1) l = l.takeWhile (· != z) :: splitN z n b := by rw [splitN, h1]
      rw [e]
      generalize l.takeWhile (· != z) = a at h2 h3
      subst h2
      rw [pos_app _ _ _ h3, List.take_succ_cons]
      show strSub _ pre.length (pre.length + a.length) :: cutsAt _ (pre.length + a.length + 1) _ = T a :: (splitN z n b).map T
      have e1 := sub_mid pre a (z :: b)
      rw [List.append_assoc] at e1
      rw [e1]
      congr 1
      have := cuts_split z n (pre ++ a ++ [z]) b
      have e2 : pre ++ a ++ [z] ++ b = pre ++ (a ++ z :: b) := by simp
      have e3 : (pre ++ a ++ [z]).length = pre.length + a.length + 1 := by simp; omega
      rw [e2, e3] at this
      exact this
theorem parts_split (z n : Nat) (l : List Nat) : partsBetween (T l) (occurrences (T l) (T [z]) 0 (T l).length n) (T [z]).length = (splitN z n l).map T := by
  have e := parts_cuts (T l) ((posL z 0 l).take n) 0
  have h := cuts_split z n [] l
  rw [occ_pos, T_len]
  unfold partsBetween
  exact e.trans h
theorem split_len_le (z : Nat) : ∀ n l, (splitN z n l).length ≤ n + 1
  | 0, l => Nat.le_refl _
  | n + 1, l => by
    unfold splitN
    split
    · simp
    · rw [List.length_cons]; have := split_len_le z n ‹_›; omega
end L2

namespace L2
open PySem PySem.W PySem.Spec PyProof.Rows PySem.Builtin PySem.Builtin.Str
def rSplit2 : V → List V → Hp → VK → Prop := fun x vs H Q => ∃ (l : List Nat) (z : Nat) (k : Int), x = .str (T l) ∧ vs = [.str (T [z]), .int k] ∧ 0 ≤ k ∧ k < 1000 ∧ z < 128 ∧ (∀ c ∈ l, c < 128) ∧ l.length ≤ sizeLine ∧ ∀ p, H p = none → Q (.ref p) (upd H p (.lst (((splitN z k.toNat l).map T).map V.str)))
theorem kind_T {l : List Nat} (h : ∀ c ∈ l, c < 128) : PySem.Builtin.Str.strKind (T l) = 1 := by
  unfold PySem.Builtin.Str.strKind
  rw [if_pos]
  rw [Array.all_eq_true_iff_forall_mem]
  intro c hc
  have : c ∈ l := by simpa [T] using hc
  have := h c this
  simp; omega
theorem mt_split2 {X : Cx} : MtR X "str.split" rSplit2 := by
  intro pins s σ H x xs v us Q I rx rs h
  obtain ⟨l, z, k, rfl, rfl, hk0, hk1, hz, hl, hlen, q⟩ := h
  obtain ⟨t, rfl⟩ := rx
  obtain ⟨u1, u2, rfl, ⟨u, rfl⟩, ⟨u', rfl⟩⟩ := vals2 rs
  have hk : (decide (k < -(2 ^ 63 : Int)) || decide (k ≥ 2 ^ 63)) = false := by simp; omega
  have hlim : limitOf (T l) k = k.toNat := by unfold limitOf; rw [if_neg (by omega)]
  have hpl := split_len_le z k.toNat l
  have fin : ∀ (zs : List (Str × Tok)) (m : Nat), zs.map (·.1) = (splitN z k.toNat l).map T →
      EP X pins σ Q (.ref s.heap.objs.size) { s with heap := s.heap.push { cls := .type "list", data := .seq (strValues zs).toArray }, toks := m } := fun zs m e => by
    have v1 := vals_strs zs
    rw [e] at v1
    exact ⟨.ref s.heap.objs.size, _, I.lnew v1 (by rw [List.length_map, List.length_map, sizeLine_eq]; omega), rfl, q _ I.fresh⟩
  have hp := parts_split z k.toNat l
  have k1 : PySem.Builtin.Str.strKind (T l) = 1 := kind_T hl
  have k2 : PySem.Builtin.Str.strKind (T [z]) = 1 := kind_T (by intro c hc; rw [List.mem_singleton.mp hc]; exact hz)
  cases h1 : (decide ((T l).length < (T [z]).length) || decide (PySem.Builtin.Str.strKind (T l) < PySem.Builtin.Str.strKind (T [z])))
  · cases hf : (occurrences (T l) (T [z]) 0 (T l).length (limitOf (T l) k)).isEmpty
    · refine call_meets F.slot_str_split (typeIs_str _ _ _) F.entry_str_split (F.args_str_split_3 _ _ _) (meets_str_split_sep_max (T l) (T [z]) k t u u' hk h1 (by rw [T_len]; rfl) hf (by rw [T_len]; exact hlen) (by rw [hlim, hp, List.length_map, sizeLine_eq]; omega)) ?_
      rw [strsFrom_eq]
      exact fin (numbered s.toks _) _ ((numbered_texts _ _).trans (by rw [hlim]; exact hp))
    · refine call_meets F.slot_str_split (typeIs_str _ _ _) F.entry_str_split (F.args_str_split_3 _ _ _) (meets_str_split_max_not_found (T l) (T [z]) k t u u' hk h1 (by rw [T_len]; rfl) hf) (fin [(T l, t)] s.toks ?_)
      rw [← hp, ← hlim]
      have : occurrences (T l) (T [z]) 0 (T l).length (limitOf (T l) k) = [] := List.isEmpty_iff.mp hf
      rw [this]
      have := sub_mid [] l []
      simp only [List.nil_append, List.append_nil, List.length_nil, Nat.zero_add] at this
      show [T l] = [strSub (T l) 0 (T l).length]
      rw [T_len, this]
  · refine call_meets F.slot_str_split (typeIs_str _ _ _) F.entry_str_split (F.args_str_split_3 _ _ _) (meets_str_split_max_cannot_occur (T l) (T [z]) k t u u' hk h1) (fin [(T l, t)] s.toks ?_)
    rw [k1, k2, T_len, T_len] at h1
    simp at h1
    subst h1
    cases k.toNat <;> rfl
theorem split_mem {z c : Nat} : ∀ {n : Nat} {l p : List Nat}, p ∈ splitN z n l → c ∈ p → c ∈ l
  | 0, l, p, h, hc => by rw [splitN, List.mem_singleton] at h; subst h; exact hc
  | n + 1, l, p, h, hc => by
    rcases drop_split (z := z) l with ⟨h1, h2⟩ | ⟨b, h1, h2, h3⟩
    · rw [splitN, h1] at h
      have h : p ∈ [l] := h
      rw [List.mem_singleton] at h; subst h; exact hc
    · rw [splitN, h1] at h
      have h : p ∈ l.takeWhile (· != z) :: splitN z n b := h
      rw [h2]
      rcases List.mem_cons.mp h with h | h
      · subst h; exact List.mem_append_left _ hc
      · exact List.mem_append_right _ (List.mem_cons_of_mem _ (split_mem h hc))
theorem split_three {z : Nat} {a b c : List Nat} (ha : z ∉ a) (hb : z ∉ b) : splitN z 2 (a ++ z :: (b ++ z :: c)) = [a, b, c] := by
  have tw : ∀ (x y : List Nat), z ∉ x → (x ++ z :: y).dropWhile (· != z) = z :: y ∧ (x ++ z :: y).takeWhile (· != z) = x := by
    intro x y hx
    induction x with
    | nil => simp
    | cons w x ih =>
      have hw : w ≠ z := fun e => hx (by simp [e])
      have := ih fun h => hx (List.mem_cons_of_mem _ h)
      rw [List.cons_append, List.dropWhile_cons, List.takeWhile_cons]
      simp [hw, this]
  have s1 : splitN z 2 (a ++ z :: (b ++ z :: c)) = a :: splitN z 1 (b ++ z :: c) := by
    rw [splitN, (tw a _ ha).1, (tw a _ ha).2]
  have s2 : splitN z 1 (b ++ z :: c) = b :: splitN z 0 c := by
    conv => lhs; rw [splitN, (tw b _ hb).1, (tw b _ hb).2]
  rw [s1, s2]; rfl
section
variable {K : PySem.W.Frag} {G H₀ L : Hp} {ss : List Sl} {ta tb tc t1 t2 te : TE} {ds : List D}
theorem repsT {H : Hp} : ∀ {ls : List (List Nat)}, (∀ l ∈ ls, ∀ c ∈ l, c < 128) → Reps K H (ls.map D.str) ((ls.map T).map V.str)
  | [], _ => Reps.nil
  | l :: ls, h => Reps.cons (Rep.str (h l List.mem_cons_self)) (repsT fun m hm => h m (List.mem_cons_of_mem _ hm))
theorem evo_split2 {l : List Nat} {z : Nat} {k : Int} (a : EvB K G H₀ L ss ta (.str l)) (b : EvB K G H₀ L ss t1 (.str [z])) (c : EvB K G H₀ L ss t2 (.int k)) (hk : 0 ≤ k ∧ k < 1000) (hl : l.length ≤ sizeLine) : EvO K G H₀ L ss (tBM K "str" rSplit2 ta (tCons t1 (tCons t2 tNil))) ((splitN z k.toNat l).map D.str) := fun F H σ Q S q =>
  a F H σ _ S fun v F1 H1 e1 r1 => by
    rw [r1.of_str]
    refine ⟨rfl, b F1 H1 σ _ (S.ext2 e1) fun v2 F2 H2 e2 r2 => c F2 H2 σ _ ((S.ext2 e1).ext2 e2) fun v3 F3 H3 e3 r3 => ?_⟩
    have ha := r1.asc
    have hz := r2.asc
    rw [r2.of_str, r3.of_int]
    refine ⟨l, z, k, rfl, rfl, hk.1, hk.2, hz z (by simp), ha, hl, fun p hp => ?_⟩
    have e := (e1.trans e2).trans e3
    exact q p _ F3 _ (e.newO hp) (e.hh.free hp) (e.fh.free hp) upd_same (repsT fun m hm c hc => ha c (split_mem hm hc))
theorem ev_tupleOf (a : EvL K G H₀ L ss te ds) (hz : ds.length ≤ sizeLine) : Ev K G H₀ L ss (tCB (fun xs H Q => ∃ p ys, xs = [.ref p] ∧ ((SqL K H p ys ∧ ∀ l, H l = none → Q (.ref l) (upd H l (.tup ys))) ∨ (SqT K H p ys ∧ Q (.ref p) H))) (tCons te tNil)) (.tup ds) := fun F H σ Q S q =>
  a F H σ _ S fun p vs F' H' e sq r => ⟨p, vs, rfl, .inl ⟨sq, fun l hl => by
    exact q _ _ _ (e.newF hl) (Rep.tup (SqT.of upd_same) (r.mono (Same.upd (e.fh.free hl))))⟩⟩
end
end L2

namespace L2
open PySem PySem.W PySem.Spec PyProof.Rows
section
variable {X : Cx}
def rLeS : R2 := fun x y H Q => ∃ i j, x = .str i ∧ y = .str j ∧ Q (.bl (!decide (j.cps.toList < i.cps.toList))) H
theorem op_le_str : OpR X (compareOp .LtE) rLeS := by
  intro pins s σ H x y v u Q I rx ry h
  obtain ⟨i, j, rfl, rfl, q⟩ := h
  obtain ⟨t, rfl⟩ := rx
  obtain ⟨t', rfl⟩ := ry
  exact compareOp_gives (op := .LtE) (typeIs_str s i t) (typeIs_str s j t') F.slot_str_le F.entry_str_le (F.args_str_le_2 _ _) (gives_str_le i j t t') (fun e => nomatch e) (fin_bl I q rfl)
end
section
variable {α : Type} {K : PySem.W.Frag} {G H₀ L : Hp} {ss : List Sl} {ta tb tc te : TE} {t : TA} {ds : List D} {E : XK} {pre : α → List D → Prop} {res : α → D}
theorem ev_chainI {i j k : Int} (a : EvB K G H₀ L ss ta (.int i)) (b : EvB K G H₀ L ss tb (.int j)) (c : EvB K G H₀ L ss tc (.int k)) : Ev K G H₀ L ss (tChain (rI0 fun i j => .bl (decide (i ≤ j))) (rI0 fun i j => .bl (decide (i ≤ j))) ta tb tc) (.bl (decide (i ≤ j) && decide (j ≤ k))) := fun F H σ Q S q =>
  a F H σ _ S fun v F1 H1 e1 r1 => b F1 H1 σ _ (S.ext2 e1) fun v2 F2 H2 e2 r2 => by
    rw [r1.of_int, r2.of_int]
    refine ⟨i, j, rfl, rfl, _, rfl, ?_⟩
    by_cases h : i ≤ j
    · rw [if_pos (decide_eq_true h)]
      refine c F2 H2 σ _ ((S.ext2 e1).ext2 e2) fun v3 F3 H3 e3 r3 => ?_
      rw [r3.of_int]
      refine ⟨j, k, rfl, rfl, q _ F3 H3 ((e1.trans e2).trans e3) ?_⟩
      rw [decide_eq_true h, Bool.true_and]; exact Rep.bl
    · rw [if_neg (by rw [decide_eq_false h]; decide)]
      refine q _ F2 H2 (e1.trans e2) ?_
      rw [decide_eq_false h, Bool.false_and]; exact Rep.bl
theorem ev_chainS {i j k : List Nat} (a : EvB K G H₀ L ss ta (.str i)) (b : EvB K G H₀ L ss tb (.str j)) (c : EvB K G H₀ L ss tc (.str k)) : Ev K G H₀ L ss (tChain rLeS rLeS ta tb tc) (.bl (!decide (j < i) && !decide (k < j))) := fun F H σ Q S q =>
  a F H σ _ S fun v F1 H1 e1 r1 => b F1 H1 σ _ (S.ext2 e1) fun v2 F2 H2 e2 r2 => by
    rw [r1.of_str, r2.of_str]
    refine ⟨T i, T j, rfl, rfl, _, rfl, ?_⟩
    rw [T_cps, T_cps]
    by_cases h : j < i
    · rw [if_neg (by rw [decide_eq_true h]; decide)]
      refine q _ F2 H2 (e1.trans e2) ?_
      rw [decide_eq_true h]; exact Rep.bl
    · rw [if_pos (by rw [decide_eq_false h]; rfl)]
      refine c F2 H2 σ _ ((S.ext2 e1).ext2 e2) fun v3 F3 H3 e3 r3 => ?_
      rw [r3.of_str]
      refine ⟨T j, T k, rfl, rfl, q _ F3 H3 ((e1.trans e2).trans e3) ?_⟩
      rw [decide_eq_false h, T_cps, T_cps]; exact Rep.bl
theorem ev_ord {c : Nat} (a : EvB K G H₀ L ss te (.str [c])) : Ev K G H₀ L ss (tCB (fun xs H Q => ∃ x : Str, xs = [.str x] ∧ x.length = 1 ∧ Q (.int (x.cps.getD 0 0 : Nat)) H) (tCons te tNil)) (.int c) := fun F H σ Q S q =>
  a F H σ _ S fun v F1 H1 e1 r1 => ⟨T [c], by rw [r1.of_str], T_len _, q _ _ _ e1 Rep.int⟩
theorem ev_intB {b : Bool} (a : EvB K G H₀ L ss te (.bl b)) : Ev K G H₀ L ss (tCB (fun xs H Q => (∃ i, xs = [.int i] ∧ Q (.int i) H) ∨ ∃ k : Bool, xs = [.bl k] ∧ Q (.int (if k then 1 else 0)) H) (tCons te tNil)) (.int (if b then 1 else 0)) := fun F H σ Q S q =>
  a F H σ _ S fun v F1 H1 e1 r1 => .inr ⟨b, by rw [r1.of_bl], q _ _ _ e1 Rep.int⟩
theorem ev_inS {c : Nat} {l : List Nat} (a : EvB K G H₀ L ss ta (.str [c])) (b : EvB K G H₀ L ss tb (.str l)) : Ev K G H₀ L ss (tOp (fun x y H Q => ∃ i j, x = .str i ∧ y = .str j ∧ Q (.bl (!(Builtin.Str.occurrences j i 0 j.length 1).isEmpty)) H) ta tb) (.bl (decide (c ∈ l))) := fun F H σ Q S q =>
  a F H σ _ S fun v F1 H1 e1 r1 => b F1 H1 σ _ (S.ext2 e1) fun v2 F2 H2 e2 r2 => by
    rw [r1.of_str, r2.of_str]
    refine ⟨T [c], T l, rfl, rfl, ?_⟩
    have := StrLaws.found_one (T l) c
    rw [T_cps] at this
    rw [show T [c] = ⟨#[c]⟩ from rfl, this]
    exact q _ F2 H2 (e1.trans e2) Rep.bl
end
def Itq (a c : Int) (n : Nat) : It := ⟨fun i _ => i < n, fun i H x H' => H' = H ∧ x = .int (a + i * c), fun i _ => n ≤ i⟩
def iRngS (c : Int) (ta : TA) : TI := fun σ H R => ta σ H fun vs H1 => ∃ i j : Int, vs = [.int i, .int j, .int c] ∧ (0 ≤ i ∧ i < 2 ^ 30 ∧ 0 ≤ j ∧ j < 2 ^ 30) ∧ R (Itq i c (Builtin.Range.rangeSize i j c).toNat) H1
theorem rsize_rng {i j c : Int} (h : 0 ≤ i ∧ i < 2 ^ 30 ∧ 0 ≤ j ∧ j < 2 ^ 30) (hc : 0 < c) : 0 ≤ Builtin.Range.rangeSize i j c ∧ Builtin.Range.rangeSize i j c < 2 ^ 31 := by
  unfold Builtin.Range.rangeSize
  rw [if_pos hc]
  split
  · have h1 : 0 ≤ (j - i - 1) / c := Int.ediv_nonneg (by omega) (by omega)
    have h2 : (j - i - 1) / c ≤ j - i - 1 := Int.ediv_le_self _ (by omega)
    omega
  · omega
theorem small_step {i j c : Int} (h : 0 ≤ i ∧ i < 2 ^ 30 ∧ 0 ≤ j ∧ j < 2 ^ 30) (hc : 0 < c) (hc2 : c < 2 ^ 30) : Builtin.Range.small i j c = true := by
  obtain ⟨h1, h2⟩ := rsize_rng h hc
  unfold Builtin.Range.small Builtin.Range.rangeFitsLong
  generalize Builtin.Range.rangeSize i j c = z at h1 h2
  rw [if_pos hc]
  simp only [Bool.and_eq_true, Bool.or_eq_true, decide_eq_true_eq, beq_iff_eq]
  omega
section
variable {X : Cx} {e1 e2 e3 : Expr} {ta : TA} {p pos : Pos} {tg : Expr}
theorem pi_rangeS {c : Int} (hc : 0 < c) (hc2 : c < 2 ^ 30) (hg : Gl X "range") (hm : X.mg "range" = none) (ha : PA X [e1, e2, e3] ta) (hs : starEach [e1, e2, e3] X.env = [(false, eval e1 X.env), (false, eval e2 X.env), (false, eval e3 X.env)] := by rfl)
    (hs2 : starEach [e2, e3] X.env = [(false, eval e2 X.env), (false, eval e3 X.env)] := by rfl) : PI X tg (.Call (.Name "range" p) [e1, e2, e3] [] pos) (iRngS c ta) := by
  intro pins s σ H R I h
  refine Call_ (ld_blt I hg hm boot_range (PyProof.Rows.callWith_type1 (thn (ha pos pins s σ H _ I h) fun us s1 ⟨vs, H1, I1, r1, q1⟩ => ?_) (by rw [hs, hs2]) (by rw [hs2]; rfl)))
  obtain ⟨i, j, rfl, hb, q⟩ := q1
  obtain ⟨u, v, w', rfl, ⟨t1, rfl⟩, ⟨t2, rfl⟩, ⟨t3, rfl⟩⟩ := vals3 r1
  refine call_range_3 (by omega) ?_ (.inl (PyProof.noPylong_small (by omega)))
  have I2 : Inv X pins σ H1 { s1 with heap := s1.heap.push { cls := .type "range", data := .fields #[.int i t1, .int j t2, .int c t3] } } := I1.kept (t' := s1.toks) fun b o e => Heap.get?_push_of_some _ e
  refine wpAny_pyIter_range (IsRange.new ..) (small_step hb hc hc2) ?_
  generalize hh2 : s1.heap.push { cls := .type "range", data := .fields #[.int i t1, .int j t2, .int c t3] } = h2 at I2
  have hsz := (rsize_rng hb hc).1
  generalize hn : (Builtin.Range.rangeSize i j c).toNat = n at q
  have hn2 : Builtin.Range.rangeSize i j c = (n : Int) := by omega
  refine ⟨h2.objs.size, [h2.objs.size], _, Itq i c n, H1, rfl, I2.kept (t' := s1.toks) fun b o e => Heap.get?_push_of_some _ e,
    turn_walk (n := n) (R := fun k v => ∃ t, v = .int (i + k * c) t) (St := fun k h => IsRangeIter h h2.objs.size (i + (k : Nat) * c) ((n : Int) - (k : Nat)) c) (fun A' hA => Walks.range hA _ i c _) (fun A' k s Q E st q => wpAny_pyIter_rangeiter st q)
      (fun k h st => ⟨_, _, _, st, rfl, rfl, by decide⟩) (fun k H g => g) (fun k H g => g) (fun k v H hk ⟨t, e⟩ => ⟨.int (i + k * c), ⟨t, e⟩, rfl, rfl⟩), ⟨Nat.zero_le _, ?_⟩, fun b hb => ?_, q⟩
  · show IsRangeIter _ _ (i + ((0 : Nat) : Int) * c) (((n : Nat) : Int) - ((0 : Nat) : Int)) c
    have e1 : i + ((0 : Nat) : Int) * c = i := by simp
    have e2 : ((n : Nat) : Int) - ((0 : Nat) : Int) = Builtin.Range.rangeSize i j c := by rw [hn2]; simp
    rw [e1, e2]
    exact Heap.get?_push_size _ rfl
  · have e : b = h2.objs.size := by simpa using hb
    subst e
    exact I2.fpOk (Nat.le_refl _) (I2.hok.fresh (Nat.le_refl _))
end
section
variable {K : PySem.W.Frag} {G H₀ L : Hp} {ss : List Sl} {D0 : Ends}
theorem go_rangeS {ta : TA} {x : Nat} {tb : TS} {m n c : Int} (I : Nat → List Sl → Prop) (a : EvA K G H₀ L ss ta [.int m, .int n, .int c]) (hb : 0 ≤ m ∧ m < 2 ^ 30 ∧ 0 ≤ n ∧ n < 2 ^ 30) (h0 : I 0 ss)
    (hs : ∀ (k : Nat) ss, k < (Builtin.Range.rangeSize m n c).toNat → I k ss → ∀ N, (∀ ss, I (k + 1) ss → Nx K G H₀ L N ss) → Go K G H₀ L { D0 with nx := N, ct := N, bk := D0.nx } (ss.set x (.d (.int (m + (k : Int) * c)))) tb)
    (hd : ∀ ss, I (Builtin.Range.rangeSize m n c).toNat ss → Nx K G H₀ L D0.nx ss) : Go K G H₀ L D0 ss (tFor (iRngS c ta) (gName x) tb) := fun F H σ S => by
  refine (a F H σ _ S fun vs F1 H1 e1 r1 => ?_)
  rw [Reps] at r1
  obtain ⟨v1, r, rfl, rx, r1⟩ := r1
  rw [Reps] at r1
  obtain ⟨v2, r, rfl, rx2, r1⟩ := r1
  rw [Reps] at r1
  obtain ⟨v3, r, rfl, rx3, r1⟩ := r1
  rw [Reps] at r1
  subst r1
  rw [rx.of_int, rx2.of_int, rx3.of_int]
  refine ⟨m, n, rfl, hb, fun i k σ' H' => k = (Builtin.Range.rangeSize m n c).toNat - i ∧ i ≤ (Builtin.Range.rangeSize m n c).toNat ∧ At K G H₀ L (I i) σ' H', ⟨_, rfl, Nat.zero_le _, ss, F1, S.ext2 e1, h0⟩, ?_⟩
  generalize (Builtin.Range.rangeSize m n c).toNat = z at hs hd
  rintro i k σ' H' ⟨rfl, hi, ss1, F2, S2, h2⟩
  by_cases hlt : i < z
  · refine .inr ⟨hlt, fun σ'' H'' => At K G H₀ L (I (i + 1)) σ'' H'', fun σ'' H'' h => ⟨z - (i + 1), by omega, rfl, hlt, h⟩, fun x H'' y => ?_⟩
    obtain ⟨rfl, rfl⟩ := y
    exact hs i ss1 hlt h2 _ (fun ss h => nx_at h) F2 _ _ (S2.setD Rep.int)
  · have e : i = z := by omega
    subst e
    exact .inl ⟨Nat.le_refl _, hd ss1 h2 F2 H' σ' S2⟩
end
section
variable {K : PySem.W.Frag} {G H₀ L : Hp} {ss : List Sl}
theorem evo_lcStr (l : List Nat) (f : Nat → D) {tl : TE} {g : TG} {te : TE} {nt : Nat} {cs : List Nat} (a : EvB K G H₀ L ss tl (.str l)) (hk : GK nt g) (hc : cs.Nodup) (hz : l.length < sizeLine)
    (hs : ∀ c ∈ l, ∃ ss', Tg K G H₀ L g (.str [c]) (lcSl nt cs ss) ss' ∧ Ev K G H₀ L ss' te (f c)) :
    EvO K G H₀ L ss (tLC nt cs (iStr tl) g tTrue te) (l.map f) := by
  have := evo_lcI (p := fun _ => true) (f := fun i => f (l.getD i 0)) (tt := tTrue) (te := te) (evi_str a) hk hc hz (fun i hi => by
    have hm : l.getD i 0 ∈ l := by rw [List.getD_eq_getElem?_getD, List.getElem?_eq_getElem hi]; exact List.getElem_mem hi
    obtain ⟨ss', h1, h2⟩ := hs _ hm
    exact ⟨ss', h1, evt_true, fun _ => h2⟩)
  have e := range_fm l 0 (fun _ => true) f
  rw [show l.filter (fun _ => true) = l from List.filter_eq_self.mpr (by simp)] at e
  rw [← e]; exact this
end
theorem dw_head (g : Nat → Bool) : ∀ (l : List Nat) (x : Nat), (l.dropWhile g).head? = some x → g x = false
  | [], x, h => by simp at h
  | y :: l, x, h => by
    rw [List.dropWhile_cons] at h
    cases hy : g y with
    | true => rw [hy, if_pos rfl] at h; exact dw_head g l x h
    | false =>
      rw [hy, if_neg (by decide)] at h
      simp at h; subst h; exact hy
theorem dw_keep (g : Nat → Bool) : ∀ l : List Nat, (∀ x, l.head? = some x → g x = false) → l.dropWhile g = l
  | [], _ => rfl
  | y :: l, h => by rw [List.dropWhile_cons, h y rfl, if_neg (by decide)]
theorem strip_idem (g : Nat → Bool) (l : List Nat) : stripL g (stripL g l) = stripL g l := by
  have hA := dw_head g l
  unfold stripL
  generalize l.dropWhile g = A at hA
  have hB : ((A.reverse.dropWhile g).reverse).dropWhile g = (A.reverse.dropWhile g).reverse := by
    refine dw_keep g _ fun x hx => hA x ?_
    have hp : (A.reverse.dropWhile g).reverse <+: A := by
      rw [← List.reverse_suffix, List.reverse_reverse]; exact List.dropWhile_suffix g
    obtain ⟨t, ht⟩ := hp
    rw [← ht]
    cases hq : (A.reverse.dropWhile g).reverse with
    | nil => rw [hq] at hx; simp at hx
    | cons y r => rw [hq] at hx; simpa using hx
  rw [hB, List.reverse_reverse]
  rw [dw_keep g (A.reverse.dropWhile g) (dw_head g _)]
theorem strip_mem {g : Nat → Bool} {l : List Nat} {c : Nat} (h : c ∈ stripL g l) : c ∈ l := by
  unfold stripL at h
  exact (List.dropWhile_sublist _).subset (List.mem_reverse.mp ((List.dropWhile_sublist _).subset (List.mem_reverse.mp h)))
theorem strip_len (g : Nat → Bool) (l : List Nat) : (stripL g l).length ≤ l.length := by
  unfold stripL
  rw [List.length_reverse]
  have h1 := (List.dropWhile_sublist g (l := (l.dropWhile g).reverse)).length_le
  have h2 := (List.dropWhile_sublist g (l := l)).length_le
  rw [List.length_reverse] at h1
  omega
end L2

namespace L2
open PySem PySem.W PySem.Spec PyProof.Rows
def D.isK : D → Bool
  | .int _ => true | .str _ => true | _ => false
def D.key : D → Key
  | .int i => .inl i | .str l => .inr (T l) | _ => .inl 0
abbrev DD := List (D × D)
inductive Dks (K : PySem.W.Frag) (F : Hp) : DD → List (Key × V) → Prop
  | nil : Dks K F [] []
  | cons {k d : D} {v : V} {kvs : DD} {xs : List (Key × V)} (hk : k.isK = true) (hr : Rep K F k (kV k.key)) (r : Rep K F d v) (t : Dks K F kvs xs) : Dks K F ((k, d) :: kvs) ((k.key, v) :: xs)
end L2

namespace L2
open PySem PySem.Spec PyProof.Rows
end L2

namespace L2
open PySem PySem.W PySem.Spec PyProof.Rows
abbrev KQ := List (D × Addr × List D)
end L2

namespace L2
open PySem PySem.Spec PyProof.Rows
end L2

namespace L2
open PySem PySem.W PySem.Spec PyProof.Rows
end L2

namespace L2
open PySem PySem.Spec PyProof.Rows
end L2

namespace L2
open PySem PySem.Spec PyProof.Rows
open AutoSeq1 (wpAny_loadPart')
end L2

namespace L2
open PySem PySem.Spec PyProof.Rows
end L2

namespace L2
open PySem PySem.Spec PyProof.Rows PySem.Builtin PySem.Builtin.Str
def EvE (K : PySem.W.Frag) (G H₀ L : Hp) (ss : List Sl) (te : TE) (R : D → Prop) : Prop := ∀ F H σ Q, Sat K G H₀ L F H σ ss → (∀ d v F' H', R d → Ext F H F' H' → Rep K F' d v → Q v H') → te σ H Q
def EvAE (K : PySem.W.Frag) (G H₀ L : Hp) (ss : List Sl) (ta : TA) (R : List D → Prop) : Prop := ∀ F H σ Q, Sat K G H₀ L F H σ ss → (∀ ds vs F' H', R ds → Ext F H F' H' → Reps K F' ds vs → Q vs H') → ta σ H Q
section
variable {K : PySem.W.Frag} {G H₀ L : Hp} {ss : List Sl} {t : TA} {te : TE} {d : D} {ds : List D} {D0 : Ends} {E : XK} {pre : List D → Prop} {R : List D → D → Prop} {S1 : D → Prop} {S2 : List D → Prop}
theorem eve_call (a : EvAF K G H₀ L ss t ds) (hp : pre ds) : EvE K G H₀ L ss (tCall (SpRD K pre R) [] E t) (R ds) := fun F H σ Q S q =>
  a F H σ _ S fun vs F1 H1 e1 r1 => ⟨F1, ds, e1.fh, by rw [List.append_nil]; exact r1, hp, fun r hR v G' H' e2 rv => q r v G' H' hR (e1.trans e2) rv⟩
theorem eae_consE (a : EvE K G H₀ L ss te S1) (b : EvAF K G H₀ L ss t ds) : EvAE K G H₀ L ss (tCons te t) fun l => ∃ d, S1 d ∧ l = d :: ds := fun F H σ Q S q =>
  a F H σ _ S fun d v F1 H1 h1 e1 r1 => b F1 H1 σ _ (S.ext2 e1) fun vs F2 H2 e2 r2 => q _ _ F2 H2 ⟨d, h1, rfl⟩ (e1.trans e2) (Reps.cons (r1.mono e2.gf) r2)
end
end L2

namespace L2
open PySem PySem.W PySem.Spec PyProof.Rows
structure ITell (K : PySem.W.Frag) (C : Addr) : Prop where
  ha : findIn K (.ref C) "__class__" = some (some (.builtin "object.__class__"))
  hn : specialIn K (.builtin "object.__class__") "__get__" = some (some (.builtin "getset_descriptor.__get__"))
  tk : takesIn K (.builtin "object.__class__") = some true
  hm : mroIn K C (.type "object") = some true
end L2

namespace L2
open PySem PySem.W PySem.Spec PyProof.Rows
end L2

namespace L2
open PySem PySem.Spec PyProof.Rows
section
variable {X : Cx}
def rMulS : R2 := fun x y H Q => ∃ z n, x = .str z ∧ y = .int n ∧ MulOk z n ∧ Q (.str (Txt.mul z n)) H
theorem op_mulS : OpR X (binaryOp .Mult) rMulS := by
  intro pins s σ H x y v u Q I rx ry h
  obtain ⟨z, n, rfl, rfl, hz, q⟩ := h
  obtain ⟨t, rfl⟩ := rx
  obtain ⟨t', rfl⟩ := ry
  exact SB.mul hz fun t' tk => ⟨.str (Txt.mul z n), H, I.tok _, ⟨_, rfl⟩, q⟩
end
theorem fold_rep (l : List Nat) : ∀ (k : Nat) (acc : List Nat), (List.replicate k l.toArray).foldl (· ++ ·) acc.toArray = (acc ++ (List.replicate k l).flatten).toArray
  | 0, acc => by simp
  | k + 1, acc => by
    rw [List.replicate_succ, List.foldl_cons, List.replicate_succ, List.flatten_cons, ← List.append_assoc]
    have : acc.toArray ++ l.toArray = (acc ++ l).toArray := by simp
    rw [this]; exact fold_rep l k (acc ++ l)
theorem T_mul (l : List Nat) (n : Nat) : Txt.mul (T l) (n : Int) = T (List.replicate n l).flatten := by
  unfold Txt.mul
  by_cases h : (n : Int) < 1
  · have : n = 0 := by omega
    subst this; rw [if_pos h]; rfl
  · rw [if_neg h]
    by_cases h2 : ((n : Int) == 1 || (T l).length == 0) = true
    · rw [if_pos h2]
      rw [Bool.or_eq_true, beq_iff_eq, beq_iff_eq, T_len] at h2
      rcases h2 with h2 | h2
      · have : n = 1 := by omega
        subst this; simp
      · have : l = [] := List.length_eq_zero_iff.mp h2
        subst this
        have : (List.replicate n ([] : List Nat)).flatten = [] := by simp
        rw [this]
    · rw [if_neg h2]
      have e := fold_rep l n []
      rw [List.nil_append] at e
      show (⟨(List.replicate (n : Int).toNat l.toArray).foldl (· ++ ·) #[]⟩ : Str) = ⟨_⟩
      rw [Int.toNat_natCast]
      exact congrArg Str.mk e
theorem mul_ok {l : List Nat} {n : Nat} (hl : l.length ≤ 1000) (hn : n ≤ 1000) : MulOk (T l) (n : Int) := by
  have hm : l.length * n ≤ 1000 * 1000 := Nat.mul_le_mul hl hn
  refine ⟨?_, fun h1 _ => ?_, fun _ _ => ?_⟩
  · rw [Bool.or_eq_false_iff]
    exact ⟨decide_eq_false (by omega), decide_eq_false (by omega)⟩
  · rw [T_len]
    have : (l.length : Int) ≤ (2 ^ 63 - 1) / (n : Int) := by
      rw [Int.le_ediv_iff_mul_le (by omega)]
      have : ((l.length * n : Nat) : Int) ≤ 1000 * 1000 := by exact_mod_cast hm
      rw [Int.natCast_mul] at this
      omega
    omega
  · rw [T_len, Int.toNat_natCast]
    unfold Builtin.Str.tooLong
    exact decide_eq_false (by rw [sizeLine_eq]; omega)
section
variable {K : PySem.W.Frag} {G H₀ L : Hp} {ss : List Sl} {ta tb : TE}
theorem ev_mulS {l : List Nat} {n : Nat} (a : EvB K G H₀ L ss ta (.str l)) (b : EvB K G H₀ L ss tb (.int n)) (hl : l.length ≤ 1000) (hn : n ≤ 1000) : Ev K G H₀ L ss (tOp rMulS ta tb) (.str (List.replicate n l).flatten) :=
  ev_op2 (w := .str (T (List.replicate n l).flatten)) a b (fun H x y Q r1 r2 q => ⟨T l, n, r1.of_str, r2.of_int, mul_ok hl hn, by rw [T_mul]; exact q⟩) fun _ _ _ _ r1 _ => Rep.str fun c hc => by
    obtain ⟨l', hl', hc'⟩ := List.mem_flatten.mp hc
    rw [(List.mem_replicate.mp hl').2] at hc'
    exact r1.asc c hc'
end
end L2

namespace L2
open PySem PySem.W PySem.Spec PyProof.Rows
section
variable {P : Program} {w : World} {fs : List Addr} {H H' : Hp} {h h2 h3 B : Heap}
theorem Un.fly (U : Un fs [] H H' h h2) (st2 : B.StaysIn h2) (st3 : B.StaysIn h3) (c1 : ∀ b o, h.get? b = some o → b ∉ fs → ∃ o', B.get? b = some o') (up : h2.UpToSlots h3)
    (ff : ∀ b ∈ fs, ∃ o, h2.get? b = some o ∧ ∀ vs, o.data ≠ .fields vs) : Un fs [] H H' h h3 where
  keep := fun b o e n hb hx => by
    obtain ⟨o', q⟩ := c1 b o e hb
    have q1 := U.keep b o e n hb hx
    have q2 := st2 b o' q
    rw [q1] at q2; cases q2
    exact st3 b _ q
  slot := fun b o e n hb hx => by
    obtain ⟨sl, q⟩ := U.slot b o e n hb hx
    obtain ⟨o2, q2, nf⟩ := ff b hb
    rw [q] at q2; cases q2
    obtain ⟨sl', q3⟩ := up b _ q nf
    exact ⟨sl', q3⟩
  free := U.free
  there := fun b o e hx => by
    by_cases hb : b ∈ fs
    · obtain ⟨o2, q2, nf⟩ := ff b hb
      obtain ⟨sl, q3⟩ := up b _ q2 nf
      exact ⟨_, q3⟩
    · obtain ⟨o', q⟩ := c1 b o e hb
      exact ⟨o', st3 b _ q⟩
  tups := U.tups
  frzs := U.frzs
  tbls := U.tbls
theorem HOk.fly (hok : HOk P w H h2) (c2 : ∀ b u, H b = some u → ∃ o', B.get? b = some o') (st2 : B.StaysIn h2) (st3 : B.StaysIn h3) : HOk P w H h3 := fun b u e => by
  refine (hok b u e).stay (fun c v hc q => ?_) (fun _ q => q) fun _ _ q => q
  obtain ⟨o', q'⟩ : ∃ o', B.get? c = some o' := by
    rcases hc with rfl | hc
    · exact c2 c _ e
    · exact c2 c _ hc
  have := st2 c o' q'
  rw [q] at this; cases this
  exact st3 c _ q'
end
section
variable {P : Program} {w : World} {K : PySem.W.Frag} {mg : Str → Option Value} {base : Heap} {N : List Str} {qual : Str} {scope : Scope} {f : Addr} {cd : Value} {A : Around} {outer : List Env} {s : Shared} {H : Hp} {E : XK}
def vmro : List Value := [.type "ValueError", .type "Exception", .type "BaseException", .type "object"]
theorem ObjOk.there {h : Heap} {a : Addr} {o : HO} (x : ObjOk P w H h a o) : ∃ ob, h.get? a = some ob := by
  cases o with
  | lst xs => obtain ⟨_, _, _, _, e⟩ := x; exact ⟨_, e⟩
  | tup xs => obtain ⟨_, _, _, ob, e, _⟩ := x; exact ⟨_, e⟩
  | dK kvs => obtain ⟨_, _, _, _, o, _, _, e, _⟩ := x; exact ⟨_, e⟩
  | dT kvs => obtain ⟨_, _, _, _, o, _, _, e, _⟩ := x; exact ⟨_, e⟩
  | set S n => obtain ⟨o, _, _, _, e, _⟩ := x; exact ⟨_, e⟩
  | ins C dx fs => obtain ⟨_, _, _, e, _⟩ := x; exact ⟨_, e⟩
  | own y => obtain ⟨_, e⟩ := x; exact ⟨_, e⟩
  | xd fs => obtain ⟨_, ⟨_, _, _, e, _⟩, _⟩ := x; exact ⟨_, e⟩
  | rng lo hi => obtain ⟨_, _, _, e⟩ := x; exact ⟨_, e⟩
  | frz ob u => obtain ⟨e, _⟩ := x; exact ⟨_, e⟩
  | tbl ps => exact ⟨_, x⟩
  | met f y => exact ⟨_, x⟩
  | ext φ => obtain ⟨_, e, _⟩ := x; exact e
end
end L2

namespace L2
open PySem PySem.W PySem.Spec PyProof.Rows
abbrev Cx.inSuite (X : Cx) (x : Addr) : Cx := { X with A := X.A.mark (some (.ref x)), calm := false, xe := fun _ _ => False }
section
variable {X : Cx} {pins : List (Addr × Obj)} {σ : St} {H : Hp} {s : Shared} {x : Addr}
theorem Inv.inSuite (I : Inv X pins σ H s) (x : Addr) : Inv (X.inSuite x) pins σ H s :=
  ⟨⟨I.ok.mod, I.ok.kind, I.ok.glob, I.ok.blt, I.ok.above, I.ok.inj, I.ok.has, I.ok.cab, (fun z => by cases z), I.ok.frames, I.ok.stk, I.ok.exf, I.ok.bs, I.ok.bsz, I.ok.noex, I.ok.exfs, I.ok.funs, I.ok.frf⟩, I.os, I.bare, I.base, I.loc, I.cell, I.free, I.freeC, I.pin, I.hok, I.len⟩
theorem Inv.outSuite (ok : X.Ok) (I : Inv (X.inSuite x) pins σ H s) : Inv X pins σ H s := ⟨ok, I.os, I.bare, I.base, I.loc, I.cell, I.free, I.freeC, I.pin, I.hok, I.len⟩
theorem unbind_ok {M : Model} {A : Around} {E : Value → Shared → Prop} {i : Nat} {n : Str} {v : V} {Q : Unit → Shared → Prop} (I : Inv X pins σ H s) (hN : X.N.Nodup) (hi : X.N[i]? = some n) (hx : X.env.scope.names.lookup n = some .local) (hv : σ[i]? = some (some v))
    (h : ∀ s', Inv X pins (σ.set i none) H s' → Q () s') : wpAny M A (unbindName X.env n) Q E s := by
  obtain ⟨m, hn, hl⟩ := id I.loc
  have hcls : (X.env.scope.kind == .class || (X.env.scope.kind == .module && X.env.locals != X.env.globals)) = false := by rw [I.ok.kind]; rfl
  obtain ⟨u, r, lk⟩ := hl i n v hi hv (.inl hx)
  have hm : m n = some u := by
    rcases lk with ⟨_, e⟩ | ⟨k, _⟩
    · exact e
    · have k : X.env.scope.names.lookup n = some .cell ∨ X.env.scope.names.lookup n = some .free := k
      rw [hx] at k
      rcases k with k | k <;> cases k
  refine wpAny_unbindName_local hx hn hm hcls fun h' u' hn' hs => ?_
  obtain ⟨oL, _, _, hoL, _⟩ := id hn
  have cne := I.cne
  have hiσ : i < σ.length := by rw [I.len]; exact (List.getElem?_eq_some_iff.mp hi).1
  refine h _ ⟨I.ok, I.os, I.bare, ⟨fun b o e n hb hx => ?_, fun b o e n hb hx => ?_, I.base.free, fun b o e hx => ?_, I.base.tups, I.base.frzs, I.base.tbls⟩, ⟨_, hn', fun j y v' e1 e2 e3 => ?_⟩, fun y c e => ?_, I.free, I.freeC, fun p hp => ?_, fun b ob e => ?_, by simpa using I.len⟩
  · exact (hs.2 b (Nat.ne_of_lt (Nat.lt_of_lt_of_le (Heap.lt_size e) I.ok.above))).trans (I.base.keep b o e n hb hx)
  · obtain ⟨sl, e1⟩ := I.base.slot b o e n hb hx
    exact ⟨sl, (hs.2 b (Nat.ne_of_lt (Nat.lt_of_lt_of_le (Heap.lt_size e) I.ok.above))).trans e1⟩
  · obtain ⟨o', e1⟩ := I.base.there b o e hx
    exact ⟨o', (hs.2 b (Nat.ne_of_lt (Nat.lt_of_lt_of_le (Heap.lt_size e) I.ok.above))).trans e1⟩
  · by_cases hj : j = i
    · subst hj
      rw [List.getElem?_set_self hiσ] at e2
      cases e2
    · rw [List.getElem?_set_ne (Ne.symm hj)] at e2
      obtain ⟨u', r', q⟩ := hl j y v' e1 e2 e3
      refine ⟨u', r', ?_⟩
      rcases q with ⟨k, e⟩ | ⟨k, c, e, z⟩
      · refine .inl ⟨k, ?_⟩
        have : y ≠ n := fun e => hj (nodup_ix hN e1 (e ▸ hi))
        simp [this, e]
      · exact .inr ⟨k, c, e, z.sameBut hs (cne y c e)⟩
  · obtain ⟨w', z⟩ := I.cell y c e
    exact ⟨w', z.sameBut hs (cne y c e)⟩
  · obtain ⟨e, n, ne, nf, d⟩ := I.pin p hp
    exact ⟨(hs.2 p.1 ne).trans e, n, ne, nf, d⟩
  · refine (I.hok b ob e).stay (fun c w' hc q => (hs.2 c ?_).trans q) (fun _ q => q) fun _ _ q => q
    rintro rfl
    rcases hc with rfl | hc
    · rw [I.free] at e; cases e
    · rw [I.free] at hc; cases hc
end
end L2

namespace L2
open PySem PySem.W PySem.Spec PyProof.Rows PySem.Calls Builtin Builtin.ObjectAttr Builtin.Getset_descriptor
structure XTell (K : PySem.W.Frag) (C : Addr) : Prop where
  ga : findIn K (.ref C) "__getattribute__" = some (some (.builtin "BaseException.__getattribute__"))
  gt : findIn K (.ref C) "__getattr__" = some none
  mb : mroIn K C (.type "BaseException") = some true
  fc : findIn K (.ref C) "__class__" = some (some (.builtin "object.__class__"))
  sp : specialIn K (.builtin "object.__class__") "__get__" = some (some (.builtin "getset_descriptor.__get__"))
  tk : takesIn K (.builtin "object.__class__") = some true
  mo : mroIn K C (.type "object") = some true
  dc : hasDictIn K C = true
section
variable {K : PySem.W.Frag} {x C : Addr}
def XAt (x C : Addr) (h : Heap) : Prop := ∃ o, h.get? x = some o ∧ o.cls = .ref C
theorem XAt.ty {M : Model} {h : Heap} (p : XAt x C h) : Looks M h (typeOf (.ref x)) (.ref C) := by
  obtain ⟨o, ho, hc⟩ := p
  rw [← hc]; exact (Looks.ld ho).andThen .now
theorem find_dd {M : Model} {h : Heap} (X : K.In h) (T : XTell K C) : Looks M h (Builtin.ObjectAttr.find (.ref x) (.ref C) "__class__") (.bind (.builtin "getset_descriptor.__get__") (.builtin "object.__class__")) :=
  (looks_findIn X T.fc).andThen ((show Looks M h (Builtin.ObjectAttr.getOf (some (.builtin "object.__class__"))) (some (.builtin "getset_descriptor.__get__")) from looks_specialIn X T.sp).andThen
    ((show Looks M h (Builtin.ObjectAttr.dataDescriptor? (some (.builtin "object.__class__")) (some (.builtin "getset_descriptor.__get__"))) (some (_, _)) from (looks_takesIn (M := M) X T.tk).andThen .now).andThen (Looks.tag .now)))
section
variable {prog : Program} {w : World} {A : Around} {s : Shared}
theorem exc_cget {R : Result → Shared → Prop} {tp : Value} (X : K.In s.heap) (T : XTell K C) (p : XAt x C s.heap) (h : R (.ok (.ret (.ref C))) s) : codeAny (model prog w) A (.call (.builtin "getset_descriptor.__get__") ⟨[.builtin "object.__class__", .ref x, tp], []⟩) R s := by
  obtain ⟨hh, g, dr, t, os⟩ := s
  have L0 := p.ty (M := model prog w); have L1 := looks_mroIn (M := model prog w) X T.mo
  refine codeAny_call_builtin KF.slot_gs.plain KF.entry_gs (KF.slot_gs.check _ _ _ _ _ _ _ _ KF.type_class (KF.args_gs _ _ _) (show wpAny _ _ _ _ _ _ from ?_))
  unfold Builtin.«getset_descriptor.__get__» descrGet; rw [dga_obj]; refine wpAny_bind (wpAny_pure ?_); unfold descrGetter descrCheckInstance descrNameAndClass isInstance; simp only [KF.owner_class]
  repeat lk
  refine ⟨Code.quiet_builtin _ (by decide +kernel), codeAny_builtin KF.entry_class (show wpAny _ _ _ _ _ _ from ?_)⟩
  unfold Builtin.«object.__class__» shownTypeOf; repeat lk
  exact h
theorem exc_class {E : Value → Shared → Prop} {Q : Option Value → Shared → Prop} (X : K.In s.heap) (T : XTell K C) (p : XAt x C s.heap) (q : Q (some (.ref C)) { s with toks := s.toks + 1 }) :
    wpAny (model prog w) A (getAttr? (.ref x) "__class__") Q E s := by
  obtain ⟨hh, g, d, t, os⟩ := s
  have L0 := p.ty (M := model prog w); have L1 := looks_findIn (M := model prog w) X T.ga; have L2 := looks_findIn (M := model prog w) X T.gt
  have L3 := find_dd (x := x) (M := model prog w) X T; have L4 := looks_mroIn (M := model prog w) X T.mb
  have hbd := F.attr_ValueError.ga.bind (.ref x)
  have hk : builtinKind "BaseException.__getattribute__" = some .slot := by decide +kernel
  have hs : splitId "BaseException.__getattribute__" = some ("BaseException", "__getattribute__") := by decide +kernel
  unfold getAttr? getAttrBy? getAttrBy; refine wpAny_bind (wpAny_mkText (wpAny_bind (wpAny_attempt (wpAny_holding (wpAny_bind (L0.at (wpAny_bind (L1.at ?_))))))))
  show wpAny _ _ (if (_ && _) then _ else _) _ _ _
  rw [if_neg (by rw [Bool.and_eq_true]; intro z; exact absurd z.2 (by decide +kernel))]
  unfold getAttrByItsOwn
  refine wpAny_bind ((show Looks _ _ (hookBefore (.ref C)) none from L2).at (wpAny_bind (wpAny_attempt (wpAny_holding ?_))))
  unfold callGetattribute boundAndCalled
  rw [if_neg (by intro z; cases z), hbd]
  refine wpAny_bind (wpAny_pure (wpAny_call ?_))
  refine codeAny_call_builtin F.attr_ValueError.ga.plain F.entry_bexc_ga ?_
  have hao := F.args_bexc_ga (.ref x) (.str "__class__" t)
  simp only [checkBuiltinCall, hk, hs]; unfold isInstance
  repeat lk
  refine wpAny_run (exc_cget (x := x) X T p ?_)
  repeat lk
  exact q
end
theorem kitx_exc (T : XTell K C) : KitX K (.ref x) (.ref C) (XAt x C) where
  ty := fun _ _ _ p => p.ty
  it := fun _ _ X _ => by
    obtain ⟨cd, hc, _⟩ := any_some T.dc
    unfold clsIn at hc; split at hc
    · rename_i ho
      intro A' Q' E' s' k q
      unfold isType loadHead; exact wpAny_bind (wpAny_loadPart (k _ _ (X _ _ ho)) (wpAny_pure q))
    · cases hc
  ne := fun h tp dd its n sl X htp => by
    obtain ⟨cd, hc, _⟩ := any_some T.dc
    refine Bool.eq_false_iff.mpr fun q => ?_
    obtain rfl : C = tp := Value.ref.inj (beq_iff_eq.mp q)
    unfold clsIn at hc; split at hc
    · rename_i ho
      have z := (X _ _ ho).symm.trans htp; cases z
    · cases hc
  ca := fun X p k => exc_class X T p k
end
end L2

namespace L2
open PySem PySem.W PyProof.Rows
end L2

namespace L2
open PySem PySem.W PyProof.Rows
theorem ps_nox {X : Cx} {st : Stmt} {t : TS} (h : PS X.nox st t) : PS X st t := fun pins s σ H D I hw =>
  wpAny_mono (h pins s σ H D (I.wish _) hw) (fun _ _ q => q.unwish) fun _ _ z => False.elim z
end L2

namespace L2
open PySem PySem.W PySem.Spec PyProof.Rows
abbrev QS := List (Addr × List D)
section
variable {K : PySem.W.Frag} {G H₀ L : Hp} {ss : List Sl} {i : Nat} {p : Addr} {kqs : KQ} {kvs : DD} {qs : QS} {E : Ends} {D0 : XK} {t : TA} {te ta td : TE} {d : D} {ds : List D} {dss : List (List D)} {pre : List D → Prop} {res : List D → List (List D)}
mutual
def D.nm : D → Bool
  | .lst _ => false
  | .dct ks vs => D.nms ks && D.nms vs
  | .dctT _ _ => false
  | .ins _ _ _ => false
  | .tup a => D.nms a
  | _ => true
def D.nms : List D → Bool
  | [] => true
  | a :: x => a.nm && D.nms x
end
def cut (F : Hp) (as : List Addr) : Hp := fun b => if b ∈ as then none else F b
end
end L2

namespace L2
open PySem PySem.W PySem.Spec PyProof.Rows
end L2

namespace L2
open PySem PySem.Spec PyProof.Rows
end L2

namespace L2
open PySem PySem.W PySem.Spec PyProof.Rows
theorem upper_T {l : List Nat} (h : ∀ c ∈ l, c < 128) : Txt.upper (T l) = T (l.map up1) := by
  rw [upper_ascii (by simpa [T] using h)]
  simp [T]
theorem up1_lt : ∀ c, c < 128 → up1 c < 128 := by decide +kernel
section
variable {K : PySem.W.Frag} {G H₀ L : Hp} {ss : List Sl} {ta : TE} {l : List Nat}
theorem ev_upperL (a : EvB K G H₀ L ss ta (.str l)) (hl : l.length ≤ 100000) : Ev K G H₀ L ss (tBM0 K "str" rUpper ta) (.str (l.map up1)) := fun F H σ Q S q =>
  a F H σ _ S fun v F1 H1 e1 r1 => by
    rw [r1.of_str]
    have e := upper_T r1.asc
    refine ⟨rfl, T l, rfl, rfl, ?_, ?_⟩
    · rw [e, T_len, List.length_map]
      unfold Builtin.Str.tooLong
      exact decide_eq_false (by rw [sizeLine_eq]; omega)
    rw [e]
    exact q _ _ _ e1 (Rep.str fun z hz => by
      obtain ⟨c, hc, rfl⟩ := List.mem_map.mp hz
      exact up1_lt c (r1.asc c hc))
end
end L2

namespace PySem
open Sem (wp)
section
variable {prog : Program} {w : World} {A : Around} {E : Value → Shared → Prop} {h : Heap} {g : Array GenState} {d : Drawn} {t : Nat} {os : OsState}
variable {nm q : Str} {C N : Addr} {bs bm bmB : List Value} {hdct : Bool} {sn : List Str} {sub : List Value} {ab : Bool} {col : Option Bool} {dd : Option Addr} {k0 k1 k2 k3 k5 : Option Value} {B Bn newId nid initId inN : String} {bmN : List Value}
theorem type_call_initU (Fn : ExcBaseFacts Bn newId inN bmN) (hBn : bmB.contains (.type Bn) = true) (F : ExcBaseFacts B nid initId bmB) (T : OwnTail h bmB bm) {mN : Str → Option Value} {rest : List Value} {fI : Addr} {oI : Obj} {Q : Fin → Shared → Prop}
    (hC : h.get? C = some (excClassObj nm q C N bs bm hdct sn sub ab col dd k0 k1 k2 k3 k5 newId)) (hn : h.Ns N mN) (hi : mN "__init__" = some (.ref fI)) (hfI : h.get? fI = some oI) (hfc : oI.cls = .type "function")
    (hq : ∀ h' e, h.objs.size ≤ e → Heap.MadeExcOf h h' e (.ref C) rest → wpAny (model prog w) A (call (.ref fI) (.ref e :: rest)) (fun r s' => r = .none ∧ Q (.done (.ret (.ref e))) s') E ⟨h', g, d, t, os⟩) (hrest : rest.length ≤ sizeLine) :
    wpAny (model prog w) A (Builtin.«type.__call__» ⟨.ref C :: rest, []⟩) Q E ⟨h, g, d, t, os⟩ := by
  repeat (first | with_reducible refine wpAny_loadPart_at hC ?_ | with_reducible refine wpAny_madeBy_exc hC ?_ | wp_step)
  refine codeAny_call_builtin_code (Code.quiet_builtin _ Fn.quiet) (wpAny_check_new_subU Fn hBn T hC ?_)
  refine codeAny_exc_new_subU Fn hBn F T hC ?_ hrest
  show wpAny _ _ _ _ _ _
  have k2 : ∀ b o, h.get? b = some o → ((h.push { cls := .type "tuple", data := .seq rest.toArray }).push { cls := .ref C, data := .fields #[.ref h.objs.size, .none, .none, .none, .bool false, .none] }).get? b = some o := fun b o e => Heap.get?_push_of_some _ (Heap.get?_push_of_some _ e)
  have hC1 := k2 _ _ hC
  have hf1 := k2 _ _ hfI
  have hn1 : ((h.push { cls := .type "tuple", data := .seq rest.toArray }).push { cls := .ref C, data := .fields #[.ref h.objs.size, .none, .none, .none, .bool false, .none] }).Ns N mN := let ⟨o, es, ep, e, r⟩ := hn; ⟨o, es, ep, k2 _ _ e, r⟩
  have hget : ((h.push { cls := .type "tuple", data := .seq rest.toArray }).push { cls := .ref C, data := .fields #[.ref h.objs.size, .none, .none, .none, .bool false, .none] }).get? (h.objs.size + 1) = some { cls := .ref C, data := .fields #[.ref h.objs.size, .none, .none, .none, .bool false, .none] } := by heap_get
  have hcC : (Value.ref C :: bm).contains (.ref C) = true := by simp
  have T1 := T.keeps k2
  unfold isInstance
  repeat (first | with_reducible refine wpAny_loadPart_at hget ?_ | (with_reducible refine wpAny_isSubtype_exc hC1 ?_; rw [hcC]) | wp_step)
  show wpAny _ _ (typeLookup (.ref C) _) _ _ _
  refine wpAny_typeLookup_tail hC1 hn1 T1 F.mroIs F.init.lookup ?_
  rw [hi]
  refine wpAny_holding (wpAny_bind ?_)
  unfold bindSpecial
  refine wpAny_bind (wpAny_typeOf (T := "function") ⟨_, hf1, hfc⟩ ?_)
  rw [if_pos (by decide)]
  refine wpAny_pure (wpAny_bind (wpAny_mono (hq _ (h.objs.size + 1) (Nat.le_succ _) ⟨k2, Heap.get?_none_of_le (Nat.le_succ _), h.objs.size, hget, Heap.get?_none_of_le (Nat.le_refl _), ?_⟩) (fun r s' hr => ?_) fun _ _ x => x))
  · exact Heap.get?_push_of_some _ (Heap.get?_push_at rfl rfl)
  · obtain ⟨rfl, hQ⟩ := hr
    wp_walk
    exact hQ
theorem call_initU (Fn : ExcBaseFacts Bn newId inN bmN) (hBn : bmB.contains (.type Bn) = true) (F : ExcBaseFacts B nid initId bmB) (T : OwnTail h bmB bm) {mN : Str → Option Value} {rest : List Value} {fI : Addr} {oI : Obj} {Q : Value → Shared → Prop}
    (hC : h.get? C = some (excClassObj nm q C N bs bm hdct sn sub ab col dd k0 k1 k2 k3 k5 newId)) (hn : h.Ns N mN) (hi : mN "__init__" = some (.ref fI)) (hfI : h.get? fI = some oI) (hfc : oI.cls = .type "function")
    (hq : ∀ h' e, h.objs.size ≤ e → Heap.MadeExcOf h h' e (.ref C) rest → wpAny (model prog w) (A.under (.builtin "type.__call__" ⟨.ref C :: rest, []⟩)) (call (.ref fI) (.ref e :: rest)) (fun r s' => r = .none ∧ Q (.ref e) s') E ⟨h', g, d, t, os⟩) (hrest : rest.length ≤ sizeLine) :
    wpAny (model prog w) A (call (.ref C) rest) Q E ⟨h, g, d, t, os⟩ := by
  have f1 := tc_lookup
  have f2 := tc_bind (.ref C)
  have hT : (⟨h, g, d, t, os⟩ : Shared).TypeIs (.ref C) "type" := ⟨_, hC, rfl⟩
  refine wpAny_call (codeAny_of_tree ?_)
  show wpAny _ _ (callAny (.ref C) _) _ _ _
  repeat (any_goals (first | assumption | with_reducible refine wpAny_loadPart_at hC ?_ | wp_step))
  refine ⟨rfl, ?_⟩
  exact codeAny_call_builtin_at (Code.quiet_builtin _ (by decide +kernel)) entry_typeCall (wpAny_check_type_call_sub hC (type_call_initU (hrest := hrest) Fn hBn F T hC hn hi hfI hfc fun h' e hs hm => hq h' e hs hm))
end
end PySem
namespace L2
open PySem PySem.W PySem.Spec PyProof.Rows
def excInI (K : PySem.W.Frag) (C : Addr) (bmB : List Value) (newId : String) (fI : Addr) : Bool := match K.lookup C with
  | some ⟨.type "type", _, .cls cd, sl⟩ => (match cd.mro, sl.toList with
    | .ref C' :: bm, [_, _, _, _, some (.builtin n), _] => C' == C && n == newId && !cd.hasDel && tailIn K bmB bm && nsOkIn K cd.ns && nsIn K cd.ns "__init__" == some (some (.ref fI))
    | _, _ => false)
  | _ => false
def XClsI (K : PySem.W.Frag) (C fI : Addr) : Prop := excInI K C vmro "ValueError.__new__" fI = true
theorem ns_at {K : PySem.W.Frag} {h : Heap} {N : Addr} {m : Str → Option Value} {n : Str} {v : Value} (X : K.In h) (G : h.Ns N m) (e : nsIn K N n = some (some v)) : m n = some v := by
  obtain ⟨o, es, ep, ho, hd, _, hf⟩ := G
  unfold nsIn at e
  split at e
  · rename_i c d es' n' sl q
    have := X _ _ q
    rw [ho] at this
    cases this
    cases hd
    split at e
    · rename_i en he
      cases e
      rw [← hf]
      unfold nsFind findBy
      rw [← Array.find?_toList, he]
      rfl
    · split at e <;> cases e
  · cases e
theorem xclsI_of {K : PySem.W.Frag} {h : Heap} {C fI : Addr} (X : K.In h) (q : XClsI K C fI) : ∃ tl N nm q bs hdct sn sub ab col dd k0 k1 k2 k3 k5 mN, h.get? C = some (excClassObj nm q C N bs tl hdct sn sub ab col dd k0 k1 k2 k3 k5 "ValueError.__new__") ∧ h.Ns N mN ∧ mN "__init__" = some (.ref fI) ∧ OwnTail h vmro tl := by
  unfold XClsI excInI at q
  split at q
  · rename_i dd cd sl ho
    split at q
    · rename_i C' bm k0 k1 k2 k3 n k5 hm hs
      simp only [Bool.and_eq_true, beq_iff_eq, Bool.not_eq_true'] at q
      obtain ⟨⟨⟨⟨⟨rfl, rfl⟩, hdel⟩, ht⟩, hok⟩, hni⟩ := q
      obtain ⟨nm, bs, mro, ns, qn, hd, sn, sub, ab, col, del⟩ := cd
      dsimp only at hm hdel hok hni
      subst hm hdel
      have hsl : sl = #[k0, k1, k2, k3, some (.builtin "ValueError.__new__"), k5] := by
        obtain ⟨l⟩ := sl
        simp only at hs
        rw [hs]
      subst hsl
      exact ⟨bm, ns, nm, qn, bs, hd, sn, sub, ab, col, dd, k0, k1, k2, k3, k5, _, X _ _ ho, .of_isNs (isNs_of_in X hok), ns_at X (.of_isNs (isNs_of_in X hok)) hni, tail_of_in X ht⟩
    · cases q
  · cases q
def ErrAt (e C : Addr) (dd : Option Addr) (h : Heap) : Prop := ∃ t : Value, h.get? e = some { cls := .ref C, dict := dd, data := .fields #[t, .none, .none, .none, .bool false, .none] }
def ErrO (e C : Addr) (dd : Option Addr) : HO := .ext (ErrAt e C dd)
theorem errO_ok {P : Program} {w : World} {H : Hp} {h : Heap} {e C : Addr} {dd : Option Addr} (x : ErrAt e C dd h) : ObjOk P w H h e (ErrO e C dd) :=
  ⟨x, let ⟨_, q⟩ := x; ⟨_, q⟩, fun h1 h2 ⟨t, q⟩ k => ⟨t, k _ q⟩⟩
theorem Inv.errMade {X : Cx} {pins : List (Addr × Obj)} {σ : St} {H : Hp} {s : Shared} {h' : Heap} {e C : Addr} {rest : List Value} (I : Inv X pins σ H s) (hs : s.heap.objs.size ≤ e) (m : Heap.MadeExcOf s.heap h' e (.ref C) rest) :
    Inv X pins σ (upd H e (ErrO e C none)) { s with heap := h', toks := s.toks } := by
  obtain ⟨t, q, _, _⟩ := m.there
  exact I.laid (t' := s.toks) (fun b u z => m.keeps b u z) hs (errO_ok ⟨.ref t, q⟩)
end L2

namespace L2
open PySem PySem.W PySem.Spec PyProof.Rows
structure CMeth (K : PySem.W.Frag) (C : Addr) (m : Str) (f : Addr) : Prop where
  ga : specialIn K (.ref C) "__getattribute__" = some (some (.builtin "type.__getattribute__"))
  rd : readsIn K C (.type "type") = true
  fc : findCls K (.ref C) (.type "type") m = some (.val (.ref f))
  kp : keepIn K (.ref f) = true
end L2

namespace L2
open PySem PySem.W PySem.Spec PyProof.Rows
end L2

namespace L2
open PySem PySem.W PySem.Spec PyProof.Rows
def tFsI (a b : Str) (te : TE) : TE := fun σ H Q => (Str.empty ++ a).length ≤ sizeLine ∧ te σ H fun x H1 => ∃ i : Int, x = .int i ∧ i.natAbs.log2 < 1920 ∧ (Str.empty ++ a ++ (toString i : Str)).length ≤ sizeLine ∧ (Str.empty ++ a ++ (toString i : Str) ++ b).length ≤ sizeLine ∧ Q (.str (Str.empty ++ a ++ (toString i : Str) ++ b)) H1
section
variable {X : Cx} {a b : Str} {e : Expr} {te : TE} {k1 k2 : Nat} {p1 p2 p3 pos : Pos}
theorem relv_str {x : Str} {u : Value} (r : RelV (.str x) u) : ∃ t, u = .str x t := r
theorem relv_int {i : Int} {u : Value} (r : RelV (.int i) u) : ∃ t, u = .int i t := r
theorem pe_fstrI (he : PE X e te) : PE X (.JoinedStr [.Constant (.str a) k1 p1, .FormattedValue e (-1) none p2, .Constant (.str b) k2 p3] pos) (tFsI a b te) := by
  intro pins s σ H Q I h
  refine JoinedStr_many (joinParts_cons ?_)
  refine wpAny_mono (pe_str (x := a) pins s σ H (fun v H1 => v = .str a ∧ H1 = H) I ⟨rfl, rfl⟩) (fun u s1 ⟨v, H1, I1, rv, ev, eh⟩ => ?_) fun _ _ z => z
  subst ev eh
  obtain ⟨t1, rfl⟩ := relv_str rv
  refine ⟨h.1, joinParts_cons (FormattedValue_plain ?_)⟩
  refine wpAny_mono (he pins s1 σ H1 _ I1 h.2) (fun u s2 ⟨x, H2, I2, r2, i, ex, hd, z1, z2, q⟩ => ?_) fun _ _ z => z
  subst ex
  obtain ⟨t2, rfl⟩ := relv_int r2
  refine formatField_int_small hd ⟨z1, joinParts_consE (joinParts_cons ?_)⟩
  refine wpAny_mono (pe_str (x := b) pins _ σ H2 (fun v H1 => v = .str b ∧ H1 = H2) (I2.tok _) ⟨rfl, rfl⟩) (fun u s3 ⟨v, H3, I3, rv, ev, eh⟩ => ?_) fun _ _ z => z
  subst ev eh
  obtain ⟨t3, rfl⟩ := relv_str rv
  exact ⟨z2, joinParts_nilE (joinParts_nil ⟨.str (Str.empty ++ a ++ (toString i : Str) ++ b), H3, I3.tok _, ⟨_, rfl⟩, q⟩ z2)⟩
end
end L2

namespace L2
open PySem PySem.W PySem.Spec PyProof.Rows
structure CInitB (K : PySem.W.Frag) (C : Addr) : Prop where
  ga : specialIn K (.ref C) "__getattribute__" = some (some (.builtin "type.__getattribute__"))
  rd : readsIn K C (.type "type") = true
  fc : findCls K (.ref C) (.type "type") "__init__" = some (.val (.builtin "ValueError.__init__"))
def tErrInit (K : PySem.W.Frag) (t : TA) : TE := fun σ H Q => t σ H fun vs H1 => ∃ e C dd v, vs = [.ref e, v] ∧ H1 e = some (ErrO e C dd) ∧ (∃ fI, XClsI K C fI) ∧ Q .non H1
section
variable {X : Cx} {B : Addr} {x : Str} {e1 e2 : Expr} {t : TA} {p apos pos : Pos}
theorem pe_errInit {pl : Sem Bool} (hg : Gl X x) (hm : X.mg x = some (.ref B)) (M : CInitB X.K B) (ha : PA X [e1, e2] t)
    (hdb : (x == ("__debug__" : Str)) = false := by decide) (hst : starEach [e1, e2] X.env = (false, eval e1 X.env) :: starEach [e2] X.env := by rfl) (hpl : (backTo pos (starEach [e2] X.env)).any (·.1) = false := by rfl)
    (ht : eval (.Call (.Attribute (.Name x p) "__init__" apos) [e1, e2] [] pos) X.env = (do
      let ov ← eval (.Name x p) X.env
      standAt apos.atName
      let (f, first) ← holding [ov] (getMethod ov "__init__" pl)
      callWith pos f first (backTo pos (starEach [e1, e2] X.env)) (backToKw pos (keywordEach [] X.env))) := by rfl) :
    PE X (.Call (.Attribute (.Name x p) "__init__" apos) [e1, e2] [] pos) (tErrInit X.K t) := by
  intro pins s σ H Q I h
  refine PySem.W.methodCall_KW (pl := pl) (thn (pe_glob (v := .ref B) hg hm rfl hdb pins s σ H (fun v H1 => v = .ref B ∧ H1 = H) I ⟨rfl, rfl⟩) fun u s1 ⟨v, H1, I1, rx, ev, eh⟩ => ?_) ht
  subst ev eh
  obtain rfl : u = Value.ref B := rx
  refine method_cls I1.kIn M.ga (cls_value I1.kIn M.rd M.fc rfl ?_)
  have hA := ha pos pins _ σ _ _ (I1.tok (s1.toks + 1)) h
  rw [hst] at hA ⊢
  refine Calls.callWith_builtin (by show (false || (backTo pos (starEach [e2] X.env)).any (·.1)) = false; rw [hpl] <;> rfl) (Calls.evalArgs_plain ?_)
  refine thn hA fun us s2 ⟨vs, H2, I2, r, e, C, dd, v, ev, he, ⟨fI, hx⟩, q⟩ => ?_
  subst ev
  obtain ⟨u1, u2, rfl, r1, r2⟩ := vals2 r
  cases r1
  obtain ⟨tl, Na, nm, q', bs, hdct, sn, sub, ab, col, ddc, k0, k1, k2, k3, k5, mN, hC, hN, hni, T⟩ := xclsI_of I2.kIn hx
  obtain ⟨t0, ho⟩ : ErrAt e C dd s2.heap := (I2.hok e _ he).1
  obtain ⟨hh, g, d, tk, os⟩ := s2
  refine wpAny_call (codeAny_call_builtin PySem.F.excBase_ValueError.init.plain PySem.F.excBase_ValueError.initEntry (wpAny_check_init_subU PySem.F.excBase_ValueError T hC ho rfl ?_))
  wp_walk
  have hk : ∀ b u, b ≠ e → hh.get? b = some u → ((hh.push { cls := .type "tuple", data := .seq #[u2] }).update e (Obj.mapFields (·.setIfInBounds 0 (Value.ref hh.objs.size)))).get? b = some u := fun b u hb z => by
    rw [Heap.get?_update_other _ _ (Ne.symm hb)]
    exact Heap.get?_push_of_some _ z
  have hget : ((hh.push { cls := .type "tuple", data := .seq #[u2] }).update e (Obj.mapFields (·.setIfInBounds 0 (Value.ref hh.objs.size)))).get? e = some { cls := .ref C, dict := dd, data := .fields #[.ref hh.objs.size, .none, .none, .none, .bool false, .none] } := by
    rw [Heap.get?_update_self _ (Heap.get?_push_of_some _ ho) rfl]
    rfl
  have J := Inv.write (o := ErrO e C dd) (t' := tk) I2 (by rw [he]; trivial) (.inl rfl) hk ⟨_, hget⟩ (errO_ok ⟨_, hget⟩)
  have eH : upd H2 e (ErrO e C dd) = H2 := by
    funext b
    by_cases hb : b = e
    · subst hb; rw [upd_same, he]
    · rw [upd_ne hb]
  rw [eH] at J
  cases t0 <;> first | exact wpAny_letGo (wpAny_pure ⟨.non, H2, J, rfl, q⟩) | exact wpAny_pure (wpAny_pure ⟨.non, H2, J, rfl, q⟩)
end
end L2

namespace L2
open PySem PySem.W PySem.Spec PyProof.Rows PySem.Calls Builtin Builtin.ObjectAttr
def vtail : List Value → Bool
  | .ref _ :: r => vtail r
  | l => l == vmro
structure XStore (K : PySem.W.Frag) (C : Addr) (name : Str) : Prop where
  sa : findIn K (.ref C) "__setattr__" = some (some (.builtin "object.__setattr__"))
  nm : findIn K (.ref C) name = some none
  ob : mroIn K C (.type "object") = some true
  hd : hasDictIn K C = true
  tl : ((clsIn K C).any fun cd => vtail cd.mro) = true
theorem refuse_v (self : Value) : ∀ {l : List Value}, vtail l = true → refuseLoop self "__setattr__" l = pure ()
  | .ref c :: r, e => by rw [refuseLoop_ref]; exact refuse_v self e
  | [], e => by cases e
  | .type n :: r, e => by rw [beq_iff_eq.mp (show ((Value.type n :: r) == vmro) = true from e)]; exact PySem.F.store_ValueError.passes self
  | .none :: r, e => by have := beq_iff_eq.mp (show ((Value.none :: r) == vmro) = true from e); cases this
  | .bool _ :: r, e => by have := beq_iff_eq.mp (show ((Value.bool _ :: r) == vmro) = true from e); cases this
  | .int _ _ :: r, e => by have := beq_iff_eq.mp (show ((Value.int _ _ :: r) == vmro) = true from e); cases this
  | .float _ _ :: r, e => by have := beq_iff_eq.mp (show ((Value.float _ _ :: r) == vmro) = true from e); cases this
  | .str _ _ :: r, e => by have := beq_iff_eq.mp (show ((Value.str _ _ :: r) == vmro) = true from e); cases this
  | .bytes _ _ :: r, e => by have := beq_iff_eq.mp (show ((Value.bytes _ _ :: r) == vmro) = true from e); cases this
  | .builtin _ :: r, e => by have := beq_iff_eq.mp (show ((Value.builtin _ :: r) == vmro) = true from e); cases this
section
variable {prog : Program} {w : World} {A : Around} {E : Value → Shared → Prop} {K : PySem.W.Frag} {h : Heap} {g : Array GenState} {d : Drawn} {t : Nat} {os : OsState} {e C : Addr} {oe : Obj} {name : Str} {v : Value}
theorem set_err {Q : Unit → Shared → Prop} (X : K.In h) (S : XStore K C name) (ho : h.get? e = some oe) (hc : oe.cls = .ref C) (hdn : oe.dict = none) (hnc : notCls oe = true) {vs : Array Value} (hdat : oe.data = .fields vs)
    (hq : ∀ h' tk, h'.get? e = some { oe with dict := some h.objs.size } → h'.Ns1 h.objs.size (fun y => if y = name then some v else none) → (∀ b o, b ≠ e → h.get? b = some o → h'.get? b = some o) → Q () ⟨h', g, d, tk, os⟩) :
    wpAny (model prog w) A (setAttr (.ref e) name v) Q E ⟨h, g, d, t, os⟩ := by
  have SF := PySem.F.store_ValueError
  have I : InstAt h e oe C none := ⟨ho, hc, hnc, by rw [hdn]; trivial⟩
  obtain ⟨cd, hcl, htl⟩ := any_some S.tl
  obtain ⟨cd2, hcl2, hdd⟩ := any_some S.hd
  have e2 : cd = cd2 := Option.some.inj (hcl.symm.trans hcl2)
  subst e2
  refine set_plain (s := ⟨h, g, d, t, os⟩) X I S.sa ?_
  have sub : Looks (model prog w) h (isInstance (.ref e) (.type "object")) true := I.type.andThen (looks_mroIn X S.ob)
  refine codeAny_call_builtin SF.slot.plain SF.entry (@check_slot (model prog w) _ _ ⟨h, g, d, t + 1, os⟩ "object.__setattr__" "object" "__setattr__" (.ref e) [.str name t, v] [] _ SF.kind SF.split sub (SF.args (.ref e) (.str name t) v) ?_)
  have hm : Looks (model prog w) h (mroOf (.ref C)) cd.mro := (looks_clsIn X hcl).andThen .now
  rw [osa_eq, refuse_eq]
  refine wpAny_bind (wpAny_bind (Looks.here (s := ⟨h, g, d, t + 1, os⟩) I.type (wpAny_bind (Looks.here (s := ⟨h, g, d, t + 1, os⟩) hm ?_))))
  rw [refuse_v _ htl]
  refine wpAny_pure (wpAny_bind (Looks.here (s := ⟨h, g, d, t + 1, os⟩) I.type (wpAny_bind (Looks.here (s := ⟨h, g, d, t + 1, os⟩) (looks_findIn X S.nm) (wpAny_bind (wpAny_pure ?_))))))
  show wpAny _ _ (storeInOwnDict (.ref e) (.ref C) (.str name t) name v false) _ _ _
  refine wpAny_bind (wpAny_pure (wpAny_bind ?_))
  obtain ⟨oc, odi, oda, osl⟩ := oe
  dsimp only at hc hdn hdat hq
  subst hc hdn hdat
  refine wpAny_bind (wpAny_loadPart ho (wpAny_bind (Looks.here (s := ⟨h, g, d, t + 1, os⟩) (looks_clsIn X hcl) ?_)))
  rw [hdd]
  rw [if_neg (by decide)]
  have ho1 : (h.push { cls := .type "dict", data := .dict #[] }).get? e = some (⟨.ref C, none, .fields vs, osl⟩ : Obj) := Heap.get?_push_of_some _ ho
  have hes : e ≠ h.objs.size := Nat.ne_of_lt (Heap.lt_size ho)
  show wpAny _ _ (alloc { cls := .type "dict", data := .dict #[] } >>= fun dx => (update e fun o => { cls := o.cls, dict := some dx, data := o.data, slots := o.slots }) >>= fun _ => dictMade (.ref C) e dx) _ _ _
  refine wpAny_bind (wpAny_alloc' ?_)
  refine wpAny_bind (wpAny_update' ho1 ?_)
  refine wpAny_pure ?_
  have hgd : ((h.push { cls := .type "dict", data := .dict #[] }).update e fun o => { cls := o.cls, dict := some h.objs.size, data := o.data, slots := o.slots }).get? h.objs.size = some { cls := .type "dict", data := .dict #[] } := (Heap.get?_update_ne _ _ _ _ hes.symm).trans (Heap.get?_push_at rfl rfl)
  have hnd : ((h.push { cls := .type "dict", data := .dict #[] }).update e fun o => { cls := o.cls, dict := some h.objs.size, data := o.data, slots := o.slots }).Ns h.objs.size (fun _ => none) := ⟨_, #[], _, hgd, rfl, fun _ z => absurd z (by simp), fun _ => rfl⟩
  show wpAny _ _ (storeInDict h.objs.size (.str name t) name v) _ _ _
  unfold storeInDict newKeyGuard
  refine wpAny_bind (wpAny_pure (wpAny_bind (wpAny_nsSet1 (Heap.Ns1.of_empty hnd) fun h' hn' hs => ?_)))
  obtain ⟨oD, esD, epD, hoD, hdD, hcD⟩ := hn'.count (Within.cons name v Within.nil)
  refine wpAny_bind (wpAny_lookBehind hoD (by rw [hdD]; exact pastItsLine_dict (Nat.le_trans hcD (by rw [List.length_cons, List.length_nil, sizeLine_eq]; omega))) ?_)
  wp_walk
  refine hq h' _ ((hs.2 e hes).trans (Heap.get?_update_self _ ho1 rfl)) hn' fun b o hb z => ?_
  exact (hs.2 b (Nat.ne_of_lt (Heap.lt_size z))).trans ((Heap.get?_update_ne _ _ _ _ hb).trans (Heap.get?_push_of_some _ z))
end
def sErrSet (K : PySem.W.Frag) (ta tv : TE) (f : Str) : TS := fun D σ H => tv σ H fun y H1 => ta σ H1 fun x H2 => ∃ e C, x = .ref e ∧ H2 e = some (ErrO e C none) ∧ XStore K C f ∧ ∀ dx, H2 dx = none → dx ≠ e → D.nx σ (upd (upd H2 e (ErrO e C (some dx))) dx (.xd [(f, y)]))
section
variable {X : Cx} {o value : Expr} {ta tv : TE} {f : Str} {pos' pos : Pos}
theorem ps_errSet (ha : PE X o ta) (hv : PE X value tv) (hs : swapsWith value (some (.Attribute o f pos')) pos.line X.env = pure false) : PS X (.Assign [.Attribute o f pos'] value pos) (sErrSet X.K ta tv f) := by
  intro pins s σ H D I h
  refine plainObj_wpAny_Assign_Attribute (thn (hv pins s σ H _ I h) fun u s1 ⟨y, H1, I1, ry, q⟩ => thn (ha pins s1 σ H1 _ I1 q) fun ov s2 ⟨x, H2, I2, rx, e, C, ex, he, S, q2⟩ => ?_) hs
  subst ex
  obtain rfl : ov = Value.ref e := rx
  obtain ⟨t0, ho⟩ : ErrAt e C none s2.heap := (I2.hok e _ he).1
  obtain ⟨hh, g, d, tk, os⟩ := s2
  refine set_err I2.kIn S ho rfl rfl rfl rfl fun h' tk' hget hns hk => ?_
  have hes : e ≠ hh.objs.size := Nat.ne_of_lt (Heap.lt_size ho)
  have hmk : ∀ b u, b ≠ e → hh.get? b = some u → (hh.update e fun o => { cls := o.cls, dict := some hh.objs.size, data := o.data, slots := o.slots }).get? b = some u := fun b u hb z => (Heap.get?_update_ne _ _ _ _ hb).trans z
  have hme : (hh.update e fun o => { cls := o.cls, dict := some hh.objs.size, data := o.data, slots := o.slots }).get? e = some { cls := .ref C, dict := some hh.objs.size, data := .fields #[t0, .none, .none, .none, .bool false, .none] } := Heap.get?_update_self _ ho rfl
  have I3 := Inv.write (o := ErrO e C (some hh.objs.size)) (t' := tk') I2 (by rw [he]; trivial) (.inl rfl) hmk ⟨_, hme⟩ (errO_ok ⟨_, hme⟩)
  have hkk : ∀ b u, (hh.update e fun o => { cls := o.cls, dict := some hh.objs.size, data := o.data, slots := o.slots }).get? b = some u → h'.get? b = some u := fun b u z => by
    by_cases hb : b = e
    · subst hb; rw [hme] at z; cases z; exact hget
    · have z2 := (Heap.get?_update_ne _ _ _ _ hb).symm.trans z
      exact hk b u hb z2
  have hsz : (hh.update e fun o => { cls := o.cls, dict := some hh.objs.size, data := o.data, slots := o.slots }).objs.size ≤ hh.objs.size := by simp [Heap.update]
  have I4 := Inv.laid (a := hh.objs.size) (o := .xd [(f, y)]) (t' := tk') I3 hkk hsz ⟨_, hns, fun n => ?_⟩
  · exact ⟨σ, _, I4, q2 _ (I2.hok.fresh (Nat.le_refl _)) hes.symm⟩
  · by_cases hn : n = f
    · subst hn; simp [List.lookup]; exact ry
    · have : (n == f) = false := by simpa using hn
      simp [List.lookup, this, hn]; trivial
end
end L2

namespace L2
open PySem
theorem runs_det {M : Model} {Γ : _root_.PySem.Ctx} {p : Pos} {t : Sem PySem.Fin} {fs : List Frame} {s s' : Shared} {e : End} (h : _root_.PySem.Runs M Γ p t fs s e s') :
    ∀ {e2 s2}, _root_.PySem.Runs M Γ p t fs s e2 s2 → e2 = e ∧ s2 = s' := by
  induction h with
  | done => intro e2 s2 h2; cases h2; exact ⟨rfl, rfl⟩
  | raise => intro e2 s2 h2; cases h2; exact ⟨rfl, rfl⟩
  | yield => intro e2 s2 h2; cases h2; exact ⟨rfl, rfl⟩
  | again _ _ ih => intro e2 s2 h2; cases h2; exact ih ‹_›
  | rule _ ih => intro e2 s2 h2; cases h2; exact ih ‹_›
  | «at» _ ih => intro e2 s2 h2; cases h2; exact ih ‹_›
  | load e1 _ ih => intro e2 s2 h2; cases h2 with | load e3 h3 => rw [e1] at e3; cases e3; exact ih h3
  | update _ _ ih => intro e2 s2 h2; cases h2; exact ih ‹_›
  | loadIfAlive _ ih => intro e2 s2 h2; cases h2; exact ih ‹_›
  | point _ ih => intro e2 s2 h2; cases h2; exact ih ‹_›
  | alloc _ ih => intro e2 s2 h2; cases h2; exact ih ‹_›
  | fresh _ ih => intro e2 s2 h2; cases h2; exact ih ‹_›
  | ask _ ih => intro e2 s2 h2; cases h2; exact ih ‹_›
  | choose _ _ ih => intro e2 s2 h2; cases h2; exact ih ‹_›
  | os _ ih => intro e2 s2 h2; cases h2; exact ih ‹_›
  | handled _ ih => intro e2 s2 h2; cases h2; exact ih ‹_›
  | genState e1 _ ih => intro e2 s2 h2; cases h2 with | genState e3 h3 => rw [e1] at e3; cases e3; exact ih h3
  | stack _ ih => intro e2 s2 h2; cases h2; exact ih ‹_›
  | thread _ ih => intro e2 s2 h2; cases h2; exact ih ‹_›
  | newGen _ ih => intro e2 s2 h2; cases h2; exact ih ‹_›
  | call _ _ i1 i2 =>
    intro e2 s2 h2
    cases h2 with
    | call a b => obtain ⟨q, rfl⟩ := i1 a; cases q; exact i2 b
    | callSusp a => obtain ⟨q, rfl⟩ := i1 a; cases q
  | callSusp _ i1 =>
    intro e2 s2 h2
    cases h2 with
    | call a b => obtain ⟨q, rfl⟩ := i1 a; cases q
    | callSusp a => obtain ⟨q, rfl⟩ := i1 a; cases q; exact ⟨rfl, rfl⟩
  | resumeFresh e1 _ _ _ i1 i2 =>
    intro e2 s2 h2
    cases h2 with
    | resumeFresh e3 a _ b => rw [e1] at e3; cases e3; obtain ⟨rfl, rfl⟩ := i1 a; exact i2 b
    | resumeSuspended e3 a _ b => rw [e1] at e3; cases e3
    | resumeJustStarted e3 a b => exact absurd rfl a
    | resumeRunning e3 a => rw [e1] at e3; cases e3
    | resumeFinished e3 a => rw [e1] at e3; cases e3
  | resumeSuspended e1 _ _ _ i1 i2 =>
    intro e2 s2 h2
    cases h2 with
    | resumeFresh e3 a _ b => rw [e1] at e3; cases e3
    | resumeSuspended e3 a _ b => rw [e1] at e3; cases e3; obtain ⟨rfl, rfl⟩ := i1 a; exact i2 b
    | resumeJustStarted e3 a b => rw [e1] at e3; cases e3
    | resumeThrowFresh e3 a => rw [e1] at e3; cases e3
    | resumeRunning e3 a => rw [e1] at e3; cases e3
    | resumeFinished e3 a => rw [e1] at e3; cases e3
  | resumeJustStarted e1 n1 _ i1 =>
    intro e2 s2 h2
    cases h2 with
    | resumeFresh e3 a _ b => exact absurd rfl n1
    | resumeSuspended e3 a _ b => rw [e1] at e3; cases e3
    | resumeJustStarted e3 a b => exact i1 b
    | resumeRunning e3 a => rw [e1] at e3; cases e3
    | resumeFinished e3 a => rw [e1] at e3; cases e3
  | resumeThrowFresh e1 _ i1 =>
    intro e2 s2 h2
    cases h2 with
    | resumeSuspended e3 a _ b => rw [e1] at e3; cases e3
    | resumeThrowFresh e3 a => exact i1 a
    | resumeRunning e3 a => rw [e1] at e3; cases e3
    | resumeFinished e3 a => rw [e1] at e3; cases e3
  | resumeRunning e1 _ i1 =>
    intro e2 s2 h2
    cases h2 with
    | resumeFresh e3 a _ b => rw [e1] at e3; cases e3
    | resumeSuspended e3 a _ b => rw [e1] at e3; cases e3
    | resumeJustStarted e3 a b => rw [e1] at e3; cases e3
    | resumeThrowFresh e3 a => rw [e1] at e3; cases e3
    | resumeRunning e3 a => exact i1 a
    | resumeFinished e3 a => rw [e1] at e3; cases e3
  | resumeFinished e1 _ i1 =>
    intro e2 s2 h2
    cases h2 with
    | resumeFresh e3 a _ b => rw [e1] at e3; cases e3
    | resumeSuspended e3 a _ b => rw [e1] at e3; cases e3
    | resumeJustStarted e3 a b => rw [e1] at e3; cases e3
    | resumeThrowFresh e3 a => rw [e1] at e3; cases e3
    | resumeRunning e3 a => rw [e1] at e3; cases e3
    | resumeFinished e3 a => exact i1 a
  | segRet _ _ i1 i2 =>
    intro e2 s2 h2
    cases h2 with
    | segRet a b => obtain ⟨q, rfl⟩ := i1 a; cases q; exact i2 b
    | segSuspOut _ a => obtain ⟨q, rfl⟩ := i1 a; cases q
    | segSuspGen _ a _ _ => obtain ⟨q, rfl⟩ := i1 a; cases q
  | segGen _ _ i1 i2 =>
    intro e2 s2 h2
    cases h2 with
    | segGen a b => obtain ⟨q, rfl⟩ := i1 a; cases q; exact i2 b
    | segSuspOut _ a => obtain ⟨q, rfl⟩ := i1 a; cases q
    | segSuspGen _ a _ _ => obtain ⟨q, rfl⟩ := i1 a; cases q
  | segSuspOut n1 _ i1 =>
    intro e2 s2 h2
    cases h2 with
    | segRet a b => obtain ⟨q, rfl⟩ := i1 a; cases q
    | segGen a b => obtain ⟨q, rfl⟩ := i1 a; cases q
    | segSuspOut _ a => obtain ⟨q, rfl⟩ := i1 a; cases q; exact ⟨rfl, rfl⟩
    | segSuspGen n2 a _ _ => rw [n1] at n2; cases n2
  | segSuspGen n1 _ _ _ i1 i2 =>
    intro e2 s2 h2
    cases h2 with
    | segRet a b => obtain ⟨q, rfl⟩ := i1 a; cases q
    | segGen a b => obtain ⟨q, rfl⟩ := i1 a; cases q
    | segSuspOut n2 a => rw [n1] at n2; cases n2
    | segSuspGen n2 a _ b => rw [n1] at n2; cases n2; obtain ⟨q, rfl⟩ := i1 a; cases q; exact i2 b
theorem wakes_det {M : Model} {Γ : _root_.PySem.Ctx} {p : Pos} {g : Nat} {r : Resume} {s s' s2 : Shared} {res res2 : GenResult} (h : Wakes M Γ p g r s res s') (h2 : Wakes M Γ p g r s res2 s2) : res2 = res ∧ s2 = s' := by
  unfold Wakes at h h2
  cases hg : s.gens[g]? with
  | none => simp only [hg] at h
  | some gs =>
    simp only [hg] at h h2
    cases gs with
    | fresh c =>
      cases r with
      | send v =>
        by_cases hv : v = .none
        · subst hv
          obtain ⟨e1, s1, h1, _, rfl, rfl⟩ := h
          obtain ⟨e3, s3, h3, _, rfl, rfl⟩ := h2
          obtain ⟨rfl, rfl⟩ := runs_det h1 h3
          exact ⟨rfl, rfl⟩
        · have a : res = .justStarted ∧ s' = s := by cases v <;> first | exact absurd rfl hv | exact h
          have b : res2 = .justStarted ∧ s2 = s := by cases v <;> first | exact absurd rfl hv | exact h2
          rw [a.1, a.2, b.1, b.2]; exact ⟨rfl, rfl⟩
      | throw x => obtain ⟨rfl, rfl⟩ := h; obtain ⟨rfl, rfl⟩ := h2; exact ⟨rfl, rfl⟩
    | suspended k0 _ c0 p0 fs _ =>
      obtain ⟨e1, s1, h1, _, rfl, rfl⟩ := h
      obtain ⟨e3, s3, h3, _, rfl, rfl⟩ := h2
      obtain ⟨rfl, rfl⟩ := runs_det h1 h3
      exact ⟨rfl, rfl⟩
    | running => obtain ⟨rfl, rfl⟩ := h; obtain ⟨rfl, rfl⟩ := h2; exact ⟨rfl, rfl⟩
    | finished => obtain ⟨rfl, rfl⟩ := h; obtain ⟨rfl, rfl⟩ := h2; exact ⟨rfl, rfl⟩
theorem wp_both {α : Type} {M : Model} {Γ : _root_.PySem.Ctx} {Q Q' : α → Pos → Shared → Prop} {E E' : Value → Pos → Shared → Prop} (t : Sem α) : ∀ (p : Pos) (s : Shared), Sem.wp M Γ t Q E p s → Sem.wp M Γ t Q' E' p s →
    Sem.wp M Γ t (fun a p s => Q a p s ∧ Q' a p s) (fun e p s => E e p s ∧ E' e p s) p s := by
  induction t with
  | pure x => exact fun p s h h' => ⟨h, h'⟩
  | raise v => exact fun p s h h' => ⟨h, h'⟩
  | unsupported | finish | yield | fork | await | register => exact fun p s h h' => h
  | rule _ k ih | «at» _ k ih | alloc _ k ih | loadIfAlive _ k ih | point _ k ih | ask k ih | os _ _ k ih | handled _ k ih | newGen _ k ih | stack k ih | thread k ih | fresh k ih => exact fun p s h h' => ih _ _ _ h h'
  | load a _ k ih | genState a k ih => exact fun p s ⟨o, ho, h⟩ ⟨o', ho', h'⟩ => by rw [ho] at ho'; cases ho'; exact ⟨o, ho, ih _ _ _ h h'⟩
  | update a _ f k ih | choose _ _ k ih => exact fun p s ⟨ha, h⟩ ⟨_, h'⟩ => ⟨ha, ih _ _ _ h h'⟩
  | call c h g l k ih => exact fun p s ⟨r, s1, h1, h2⟩ ⟨r', s1', h1', h2'⟩ => by obtain ⟨q, rfl⟩ := runs_det h1 h1'; cases q; exact ⟨_, _, h1, ih _ _ _ h2 h2'⟩
  | resume g r l k ih => exact fun p s ⟨res, s1, hw, h⟩ ⟨res', s1', hw', h'⟩ => by obtain ⟨rfl, rfl⟩ := wakes_det hw hw'; exact ⟨_, _, hw, ih _ _ _ h h'⟩
theorem wpAny_both {α : Type} {t : Sem α} {Q Q' : α → Shared → Prop} {M : Model} {A : Around} {E E' : Value → Shared → Prop} {s : Shared} (h : wpAny M A t Q E s) (h' : wpAny M A t Q' E' s) : wpAny M A t (fun a s => Q a s ∧ Q' a s) (fun e s => E e s ∧ E' e s) s :=
  fun Γ p hΓ => wp_both t p s (h Γ p hΓ) (h' Γ p hΓ)
end L2

namespace L2
open PySem PySem.W PySem.Spec PyProof.Rows
def DK (h h' : Heap) : Prop := ∀ b o, h.get? b = some o → ∃ o', h'.get? b = some o' ∧ o'.dict = o.dict
theorem DK.trans {h1 h2 h3 : Heap} (x : DK h1 h2) (y : DK h2 h3) : DK h1 h3 := fun b o e => by
  obtain ⟨o1, e1, q1⟩ := x b o e
  obtain ⟨o2, e2, q2⟩ := y b o1 e1
  exact ⟨o2, e2, q2.trans q1⟩
theorem dk_push (h : Heap) (o : Obj) : DK h (h.push o) := fun b u e => ⟨u, Heap.get?_push_of_some _ e, rfl⟩
theorem dict_mapFields (g : Array Value → Array Value) (o : Obj) : (Obj.mapFields g o).dict = o.dict := by
  obtain ⟨c, d, da, sl⟩ := o
  cases da <;> rfl
theorem dk_fields {h : Heap} {a : Addr} {o : Obj} {vs : Array Value} (g : Array Value → Array Value) (ho : h.get? a = some o) (hd : o.data = .fields vs) : DK h (h.update a (Obj.mapFields g)) := fun b u e => by
  by_cases hb : b = a
  · subst hb
    rw [ho] at e; cases e
    exact ⟨_, Heap.get?_update_self (Obj.mapFields g) ho (Obj.isFreed_of_fields (Obj.data_mapFields hd g)), dict_mapFields g o⟩
  · exact ⟨u, (Heap.get?_update_other _ _ (Ne.symm hb)).trans e, rfl⟩
section
variable {M : Model} {A : Around} {E : Value → Shared → Prop} {s : Shared} {B : Heap} {env : Env} {outer : List Env} {L e : Addr}
theorem dk_entry {oe : Obj} {vs : Array Value} {head : Value} {hn : Bool} (q1 : A.frames = some (env :: outer)) (q2 : s.heap.FunFrames B (env :: outer)) (q3 : env.frame = some L) (q4 : s.heap.get? e = some oe) (q5 : oe.data = .fields vs) (q6 : 1 < vs.size) :
    wpAny M A (do let a ← frameOf env; let pl ← entryPlaceOf L hn; let b ← EntryCells.newEntry head a .none (rawInt L) .none pl; setField (.ref e) 1 b) (fun _ s' => DK s.heap s'.heap) E s := by
  have ne : e ∉ (env :: outer).filterMap (·.frame) := fun z => by
    obtain ⟨_, o, ho, nf⟩ := q2.mem z
    rw [q4] at ho; cases ho; exact nf vs q5
  refine wpAny_bind (wpAny_frameOf_fun q1 q2 q3 fun g kk => wpAny_bind (wpAny_entryPlaceOf fun pl hp => ?_))
  unfold EntryCells.newEntry newFields
  have k1 : DK s.heap g := fun b o z => by obtain ⟨sl, z2⟩ := kk.2.2 b o z; exact ⟨_, z2, rfl⟩
  have k2 : g.get? e = some oe := (kk.2.1 e ne).trans q4
  exact wpAny_bind (wpAny_newObj_type (wpAny_setField (Heap.get?_push_of_some _ k2) q5 q6 (k1.trans ((dk_push _ _).trans (dk_fields _ (Heap.get?_push_of_some _ k2) q5)))) (hp.sizeOk5 _ _ _ _ _))
theorem dk_note1 {oe : Obj} {vs : Array Value} (q1 : A.frames = some (env :: outer)) (q2 : s.heap.FunFrames B (env :: outer)) (q3 : env.frame = some L) (q4 : s.heap.get? e = some oe) (q5 : oe.data = .fields vs) (q6 : vs[1]? = some .none) :
    wpAny M A (noteFrame (.ref e) env) (fun _ s' => DK s.heap s'.heap) E s := by
  unfold noteFrame
  simp only [q3]
  refine wpAny_bind (wpAny_field q4 q5 q6 ?_)
  rw [if_neg (by decide)]
  exact dk_entry q1 q2 q3 q4 q5 (Array.getElem?_eq_some_iff.mp q6).1
theorem dk_note2 {C a0 : Value} (q1 : A.frames = some (env :: outer)) (q2 : s.heap.FunFrames B (env :: outer)) (q3 : env.frame = some L) (q4 : s.heap.TracedW B e C a0) : wpAny M A (noteFrame (.ref e) env) (fun _ s' => DK s.heap s'.heap) E s := by
  obtain ⟨oe, vs, T, oT, ts, he, ⟨_, _⟩, hd, h1, hnT, hTe, hT, hdT, h3⟩ := q4
  unfold noteFrame
  simp only [q3]
  refine wpAny_bind (wpAny_field he hd h1 ?_)
  rw [if_pos (by simp)]
  refine wpAny_bind (wpAny_field hT hdT h3 ?_)
  rw [if_neg (by simp [rawInt])]
  have k1 := dk_fields (·.setIfInBounds 3 Value.none) hT hdT
  refine wpAny_bind (wpAny_setField hT hdT (Array.getElem?_eq_some_iff.mp h3).1 ?_)
  have oth : ∀ b, b ≠ T → (s.heap.update T (Obj.mapFields (·.setIfInBounds 3 Value.none))).get? b = s.heap.get? b := fun b hb => Heap.get?_update_other _ _ (Ne.symm hb)
  have nr : ∀ b o, s.heap.get? b = some o → (∀ vs, o.data ≠ .fields vs) → b ≠ T := fun b o hb nf q => by rw [q, hT] at hb; cases hb; exact nf ts hdT
  exact thn (dk_entry q1 (q2.of_keeps fun b o hb nf => ⟨o, (oth b (nr b o hb nf)).trans hb, rfl⟩) q3 ((oth e (Ne.symm hTe)).trans he) hd (Array.getElem?_eq_some_iff.mp h1).1) fun _ _ k => k1.trans k
theorem dk_fly {C a0 fl : Value} (q4 : s.heap.TracedAtW B e C a0 fl) : wpAny M A (setFlight (.ref e) none) (fun _ s' => DK s.heap s'.heap) E s := by
  obtain ⟨oe, vs, T, oT, ts, he, _, hd, h1, _, _, hT, hdT, h3⟩ := q4
  unfold setFlight
  refine wpAny_bind (wpAny_field he hd h1 ?_)
  rw [if_pos (by simp)]
  exact wpAny_setField hT hdT (Array.getElem?_eq_some_iff.mp h3).1 (dk_fields _ hT hdT)
end
end L2

namespace L2
open PySem PySem.W PySem.Spec PyProof.Rows
def DictIs (h : Heap) (e : Addr) (dd : Option Addr) : Prop := ∃ o, h.get? e = some o ∧ o.dict = dd
theorem DK.is {h h' : Heap} {e : Addr} {dd : Option Addr} (k : DK h h') (x : DictIs h e dd) : DictIs h' e dd := by
  obtain ⟨o, e1, q⟩ := x
  obtain ⟨o', e2, q2⟩ := k e o e1
  exact ⟨o', e2, q2.trans q⟩
section
variable {M : Model} {A : Around} {E : Value → Shared → Prop} {s : Shared} {B : Heap} {env : Env} {outer : List Env} {L e : Addr} {C a0 : Value} {Q : Unit → Shared → Prop}
theorem dk_leave {h0 : Heap} {m : Sem Unit} (hm : wpAny M A m (fun _ s' => (∃ fl, s'.heap.TracedAtW B e C a0 fl) ∧ DK h0 s'.heap) E s) : wpAny M A (m >>= fun _ => setFlight (.ref e) none) (fun _ s' => DK h0 s'.heap) E s :=
  wpAny_bind (wpAny_mono hm (fun _ s1 ⟨⟨fl, t⟩, k⟩ => wpAny_mono (dk_fly t) (fun _ _ k2 => k.trans k2) fun _ _ z => z) fun _ _ z => z)
theorem leaves_first2 {oe : Obj} {vs : Array Value} (q1 : A.frames = some (env :: outer)) (q2 : s.heap.FunFrames B (env :: outer)) (q3 : env.frame = some L) (q4 : s.heap.get? e = some oe) (qb : B.StaysIn s.heap) (qe : B.get? e = none) (q5 : oe.data = .fields vs) (q6 : vs[1]? = some .none)
    (q7 : vs[0]? = some a0) (h : ∀ h', Heap.FlyingW B outer e oe.cls a0 h' → s.heap.UpToSlots h' → DK s.heap h' → Q () { s with heap := h' }) : wpAny M A (leaving env (.ref e)) Q E s := by
  refine wpAny_mono (wpAny_both (wpAny_leaving_firstW (Q := fun _ s' => ∃ h', s' = { s with heap := h' } ∧ Heap.LeftW B (env :: outer) e oe.cls a0 s.heap h') (E := E) q1 q2 q3 q4 qb qe q5 q6 q7 fun h' a => ⟨h', rfl, a⟩) (dk_leave (E := E) (C := oe.cls) (a0 := a0) (B := B) (m := noteFrame (.ref e) env)
    (wpAny_mono (wpAny_both (Q := fun _ s' => ∃ fl, s'.heap.TracedAtW B e oe.cls a0 fl) (E := E) ?_ (dk_note1 (E := E) q1 q2 q3 q4 q5 q6)) (fun _ _ z => z) fun _ _ z => z.1))) (fun _ s' z => ?_) fun _ _ z => z.1
  · unfold noteFrame
    simp only [q3]
    refine wpAny_bind (wpAny_field q4 q5 q6 ?_)
    rw [if_neg (by decide)]
    exact wpAny_entryW q1 q2 q3 q4 qb qe q5 (Array.getElem?_eq_some_iff.mp q6).1 q7 fun h' n => ⟨_, n.2.2.1⟩
  · obtain ⟨⟨h', rfl, k1, ⟨_, _, k2⟩, k3, k4⟩, k⟩ := z
    exact h h' ⟨k1, qe, k2, k3⟩ k4 k
theorem looks_on2 (q1 : A.frames = some (env :: outer)) (q3 : env.frame = some L) (fl : Heap.FlyingW B (env :: outer) e C a0 s.heap) (h : ∀ h', Heap.HeldW B (env :: outer) e C a0 L h' → s.heap.UpToSlots h' → DK s.heap h' → Q () { s with heap := h' }) :
    wpAny M A (noteFrame (.ref e) env) Q E s := by
  refine wpAny_mono (wpAny_both (wpAny_looks_onW (Q := fun _ s' => ∃ h', s' = { s with heap := h' } ∧ Heap.HeldW B (env :: outer) e C a0 L h' ∧ s.heap.UpToSlots h') (E := E) q1 q3 fl fun h' a b => ⟨h', rfl, a, b⟩) (dk_note2 (E := E) q1 fl.2.2.1 q3 fl.2.2.2)) (fun _ s' z => ?_) fun _ _ z => z.1
  obtain ⟨⟨h', rfl, a, b⟩, k⟩ := z
  exact h h' a b k
theorem lands2 {l : List Env} (hh : Heap.HeldW B l e C a0 L s.heap) (h : ∀ h', Heap.FlyingW B l e C a0 h' → s.heap.UpToSlots h' → DK s.heap h' → Q () { s with heap := h' }) : wpAny M A (setFlight (.ref e) none) Q E s := by
  refine wpAny_mono (wpAny_both (wpAny_landsW (Q := fun _ s' => ∃ h', s' = { s with heap := h' } ∧ Heap.FlyingW B l e C a0 h' ∧ s.heap.UpToSlots h') (E := E) hh fun h' a b => ⟨h', rfl, a, b⟩) (dk_fly (E := E) hh.2.2.2)) (fun _ s' z => ?_) fun _ _ z => z.1
  obtain ⟨⟨h', rfl, a, b⟩, k⟩ := z
  exact h h' a b k
end
def CX2 (P : Program) (w : World) : CXT := fun outer H s E e s' => ∃ (x C : Addr) (a0 : Value) (B : Heap) (H' : Hp) (dd : Option Addr), e = .ref x ∧ s'.os = s.os ∧ AllBare s'.gens ∧ Un (frs outer) [] H H' s.heap s'.heap ∧ HOk P w H' s'.heap ∧
  Heap.FlyingW B outer x (.ref C) a0 s'.heap ∧ (∀ b o, s.heap.get? b = some o → b ∉ frs outer → ∃ o', B.get? b = some o') ∧ (∀ b u, H' b = some u → ∃ o', B.get? b = some o') ∧ s.heap.get? x = none ∧ H' x = none ∧ DictIs s'.heap x dd ∧ E (.ref C) dd H'
theorem pass20 {P : Program} {w : World} {X : Cx} : Passes (CX2 P w) X E0 := fun _ _ _ _ _ _ _ h => by
  obtain ⟨_, _, _, _, _, _, _, _, _, _, _, _, _, _, _, _, _, q⟩ := h
  exact q.elim
def del (H : Hp) (e : Addr) : Hp := fun b => if b = e then none else H b
theorem del_same {H : Hp} {e : Addr} : del H e e = none := by unfold del; rw [if_pos rfl]
theorem del_ne {H : Hp} {e b : Addr} (h : b ≠ e) : del H e b = H b := by unfold del; rw [if_neg h]
theorem del_some {H : Hp} {e b : Addr} {u : HO} (h : del H e b = some u) : b ≠ e ∧ H b = some u := by
  by_cases hb : b = e
  · rw [hb, del_same] at h; cases h
  · rw [del_ne hb] at h; exact ⟨hb, h⟩
section
variable {P : Program} {w : World} {K : PySem.W.Frag} {mg : Str → Option Value} {base : Heap} {N : List Str} {qual : Str} {scope : Scope} {f : Addr} {cd : Value} {A : Around} {outer : List Env} {s : Shared} {H : Hp} {E : XK}
theorem Un.del {fs : List Addr} {H H1 : Hp} {h h2 : Heap} {e : Addr} (U : Un fs [] H H1 h h2) (he : H e = none) : Un fs [] H (L2.del H1 e) h h2 where
  keep := U.keep
  slot := U.slot
  free := fun b o q n hx => by
    by_cases hb : b = e
    · rw [hb]; exact del_same
    · rw [del_ne hb]; exact U.free b o q n hx
  there := U.there
  tups := fun b xs q => by rw [del_ne (ne_of_none q he)]; exact U.tups b xs q
  frzs := fun b o u q => by rw [del_ne (ne_of_none q he)]; exact U.frzs b o u q
  tbls := fun b ps q => by obtain ⟨m, z⟩ := U.tbls b ps q; exact ⟨m, by rw [del_ne (ne_of_none q he)]; exact z⟩
theorem HOk.del {H : Hp} {h : Heap} {e : Addr} {φ : Heap → Prop} (hok : HOk P w H h) (he : H e = some (.ext φ)) : HOk P w (L2.del H e) h := fun b u q => by
  obtain ⟨hb, q⟩ := del_some q
  refine (hok b u q).stay (fun _ _ _ z => z) (fun c z => ?_) fun c xs z => ?_
  · rw [del_ne (ne_of z he (by intro z; cases z))]; exact z
  · rw [del_ne (ne_of z he (by intro z; cases z))]; exact z
end
def ExcClsAt (h : Heap) (C : Addr) (bm : List Value) : Prop := ∃ nm q N bs hdct sn sub ab col dd k0 k1 k2 k3 k5 newId, h.get? C = some (excClassObj nm q C N bs bm hdct sn sub ab col dd k0 k1 k2 k3 k5 newId)
section
variable {M : Model} {A : Around} {E : Value → Shared → Prop} {env : Env}
theorem raise_inst {s : Shared} {x : Sem Value} {Q : Flow → Shared → Prop} (hh : A.handled = none)
    (h : wpAny M A x (fun v s1 => ∃ e t de C bm, v = .ref e ∧ ExcClsAt s1.heap C bm ∧ bm.contains (.type "BaseException") = true ∧
      s1.heap.get? e = some { cls := .ref C, dict := de, data := .fields #[t, .none, .none, .none, .bool false, .none] } ∧ E (.ref e) s1) E s) :
    wpAny M A (raiseStmt env (some x) none) Q E s := by
  unfold raiseStmt
  refine wpAny_bind (wpAny_mono h (fun v s1 h1 => ?_) fun _ _ x => x)
  obtain ⟨e, t, de, C, bm, rfl, ⟨_, _, _, _, _, _, _, _, _, _, _, _, _, _, _, _, hC⟩, hb, he, hE⟩ := h1
  have hB : (Value.ref C :: bm).contains (.type "BaseException") = true := by rw [List.contains_cons, hb, Bool.or_true]
  obtain ⟨hp, g, d, tk, os⟩ := s1
  repeat (first | with_reducible refine wpAny_loadPart_at he ?_ | with_reducible refine wpAny_loadPart_at hC ?_ | (with_reducible refine wpAny_isSubtype_exc hC ?_; rw [hB]) | wp_step)
  exact wpAny_raiseNew_none hh hE
end
def tRaiseV (K : PySem.W.Frag) (E : XK) (H₀ : Hp) (te : TE) : TS := fun _ σ H => te σ H fun v H1 => ∃ e C dd, v = .ref e ∧ H1 e = some (ErrO e C dd) ∧ H₀ e = none ∧ (∃ fI, XClsI K C fI) ∧ E (.ref C) dd (del H1 e)
section
variable {P : Program} {w : World} {K : PySem.W.Frag} {mg : Str → Option Value} {base : Heap} {N : List Str} {qual : Str} {scope : Scope} {f : Addr} {cd : Value} {A : Around} {outer : List Env} {s : Shared} {H : Hp} {E : XK}
theorem fly_out {pins : List (Addr × Obj)} {σ : St} {H2 : Hp} {s2 : Shared} {e C : Addr} {dd : Option Addr} {oe : Obj} {vs : Array Value} {φ : Heap → Prop} {a0 : Value} (I2 : Inv (cxOf (CX2 P w) P w K mg base N qual scope f cd A outer s H E) pins σ H2 s2) (he : H2 e = some (.ext φ)) (hn : H e = none)
    (ho : s2.heap.get? e = some oe) (hc : oe.cls = .ref C) (hd : oe.dict = dd) (hv : oe.data = .fields vs) (h1 : vs[1]? = some .none) (h0 : vs[0]? = some a0) (q : E (.ref C) dd (del H2 e)) :
    (cxOf (CX2 P w) P w K mg base N qual scope f cd A outer s H E).xe (.ref e) s2 := by
  have thr : ∀ b o, s.heap.get? b = some o → ∃ o1, s2.heap.get? b = some o1 := fun b o e => I2.base.there b o e (fun z => nomatch z)
  have stk : s2.heap.FunFrames base (envOfC qual scope s.heap.objs.size f cd :: outer) := I2.stack
  have nx : s.heap.get? e = none := by
    cases z : s.heap.get? e with
    | none => rfl
    | some o =>
      have := I2.base.free e o z hn (fun z => nomatch z)
      rw [he] at this; cases this
  generalize hfr : (envOfC qual scope s.heap.objs.size f cd :: outer).filterMap (·.frame) = fr
  have hin : ∀ env ∈ (envOfC qual scope s.heap.objs.size f cd :: outer), ∀ b, env.frame = some b → b ∈ e :: fr := fun env hz b hb => List.mem_cons_of_mem _ (by rw [← hfr]; exact List.mem_filterMap.mpr ⟨env, hz, hb⟩)
  have hfs : frs (envOfC qual scope s.heap.objs.size f cd :: outer) = fr := hfr
  generalize hB : hideAll s2.heap (e :: fr) = B
  have bst : B.StaysIn s2.heap := fun b o e => by rw [← hB] at e; exact of_hideAll _ e
  have bget : ∀ b o, s2.heap.get? b = some o → b ∉ e :: fr → B.get? b = some o := fun b o e hb => by rw [← hB]; exact hideAll_get _ e hb
  have bff : s2.heap.FunFrames B (envOfC qual scope s.heap.objs.size f cd :: outer) := by rw [← hB]; exact funFrames_hide stk hin
  have be : B.get? e = none := by rw [← hB]; exact hideAll_none _ (List.mem_cons_self ..)
  have c1 : ∀ b o, s.heap.get? b = some o → b ∉ frs outer → ∃ o', B.get? b = some o' := fun b o z hb => by
    obtain ⟨o1, e1⟩ := thr b o z
    refine ⟨o1, bget b o1 e1 fun k => ?_⟩
    rcases List.mem_cons.mp k with k | k
    · rw [k, nx] at z; cases z
    · have k : b ∈ s.heap.objs.size :: frs outer := by rw [← hfs] at k; exact k
      rcases List.mem_cons.mp k with k | k
      · exact absurd (Heap.lt_size z) (by rw [k]; exact Nat.lt_irrefl _)
      · exact hb k
  have tin : ∀ b u, del H2 e b = some u → ∃ o', B.get? b = some o' := fun b u z => by
    obtain ⟨hb, z⟩ := del_some z
    obtain ⟨o, ho⟩ : ∃ o, s2.heap.get? b = some o := (I2.hok b u z).there
    refine ⟨o, bget b o ho fun k => ?_⟩
    rcases List.mem_cons.mp k with k | k
    · exact hb k
    · have := I2.stkFree b (by rw [← hfs] at k; exact k)
      rw [z] at this; cases this
  refine leaves_first2 I2.ok.frames bff rfl ho bst be hv h1 h0 fun h3 fl3 up dk => ?_
  rw [hc] at fl3
  refine ⟨e, C, a0, B, del H2 e, dd, rfl, I2.os, I2.bare, ?_, (I2.hok.del he).fly tin bst fl3.1, fl3, c1, tin, nx, del_same, dk.is ⟨oe, ho, hd⟩, q⟩
  exact Un.fly (B := B) (I2.base.del hn) bst fl3.1 c1 up fun b hb => (stk.mem (b := b) (List.mem_cons_of_mem _ hb)).2
theorem ps_raiseV {x : Expr} {te : TE} {pos : Pos} (hp : PE (cxOf (CX2 P w) P w K mg base N qual scope f cd A outer s H E) x te) : PS (cxOf (CX2 P w) P w K mg base N qual scope f cd A outer s H E) (.Raise (some x) none pos) (tRaiseV K E H te) := by
  intro pins s1 σ H1 D I h
  have W := hp pins s1 σ H1 _ I h
  show wpAny _ _ (do standAt pos; raiseStmt _ (some (do let v ← eval x _; standAt pos; pure v)) none) _ _ s1
  refine wpAny_bind (wpAny_standAt (raise_inst (I.ok.hd rfl) (wpAny_bind (thn W fun v s2 ⟨u, H2, I2, ru, e, C, dd, eu, he, hn, ⟨fI, hx⟩, q⟩ => wpAny_bind (wpAny_standAt (wpAny_pure ?_))))))
  subst eu
  obtain rfl : v = Value.ref e := ru
  obtain ⟨tl, Na, nm, q', bs, hdct, sn, sub, ab, col, dc, k0, k1, k2, k3, k5, mN, hC, hN, hni, T⟩ := xclsI_of I2.kIn hx
  obtain ⟨t0, ho⟩ : ErrAt e C dd s2.heap := (I2.hok e _ he).1
  exact ⟨e, t0, dd, C, tl, rfl, ⟨_, _, _, _, _, _, _, _, _, _, _, _, _, _, _, _, hC⟩, T.hasType PySem.F.excBase_ValueError.hasBase, ho, fly_out I2 he hn ho rfl rfl rfl rfl rfl q⟩
end
end L2

namespace L2
open PySem PySem.W PySem.Spec PyProof.Rows
def tErrNew (C : Addr) (sp : Sp) (E : XK) (t : TA) : TE := fun σ H Q => t σ H fun vs H1 => ∀ e, H1 e = none → sp (.ref e :: vs) (upd H1 e (ErrO e C none)) (fun v H2 => v = .non ∧ Q (.ref e) H2) E
structure XMk (K : PySem.W.Frag) (C f : Addr) : Prop where
  cls : XClsI K C f
  fn : PySem.W.isFn K (.ref f) = true
  kp : PySem.W.keepIn K (.ref C) = true
section
variable {X : Cx} {CX : CXT} {k : Nat} {f C : Addr} {fd : FuncData} {ps : List Str} {sp : Sp} {E : XK} {x : Str} {p pos : Pos} {e : Expr} {es : List Expr} {t : TA}
theorem pe_errNew (M : XMk X.K C f) (F : FnOk X.prog X.w X.K X.mg X.base CX k f fd ps sp) (hr : Room (k + 1) X.A) (hg : Gl X x) (hm : X.mg x = some (.ref C)) (hb : Binds X.K fd ps []) (hx : Passes CX X E)
    (ha : PA X (e :: es) t) (hsz : ps.length ≤ 100) (hdb : (x == ("__debug__" : Str)) = false := by decide) (he : starEach (e :: es) X.env = (false, eval e X.env) :: starEach es X.env := by rfl) (hpl : (backTo pos (starEach es X.env)).any (·.1) = false := by rfl) :
    PE X (.Call (.Name x p) (e :: es) [] pos) (tErrNew C sp E t) := by
  intro pins s σ H Q I h
  refine wpAny_Call_Name_kw (ld_glob I hg hm ?_ hdb)
  refine PySem.W.callWith_K (h₀ := X.base) I.ok.mod.kin M.kp (thn (ha pos pins s σ H _ I h) fun us s1 ⟨vs, H1, I1, r, q⟩ => ⟨I1.kIn, ?_⟩) he hpl
  obtain ⟨tl, Na, nm, q', bs, hdct, sn, sub, ab, col, dc, k0, k1, k2, k3, k5, mN, hC, hN, hni, T⟩ := xclsI_of I1.kIn M.cls
  obtain ⟨oI, hoI, hcI⟩ := Option.map_eq_some_iff.mp (beq_iff_eq.mp M.fn)
  obtain ⟨hh, g, d, tk, os⟩ := s1
  refine call_initU PySem.F.excBase_ValueError (by decide) PySem.F.excBase_ValueError T hC hN hni (I1.kIn f oI hoI) hcI (fun h' e' hs hmd => ?_) ?_
  · have I2 := Inv.errMade (s := ⟨hh, g, d, tk, os⟩) (C := C) I1 hs hmd
    have hq := q e' (I1.hok.fresh hs)
    have r2 : Vals (V.ref e' :: vs) (Value.ref e' :: us) := .cons rfl r
    have hl : (Value.ref e' :: us ++ []).length = ps.length := by
      have z := r2.length
      rw [F.len _ _ _ _ hq] at z
      rw [List.append_nil]; exact z.symm
    have hb' := hb ⟨h', g, d, tk, os⟩ (Value.ref e' :: us) I2.kIn hl
    rw [List.append_nil] at hb'
    refine wpAny_call (codeAny_mono (F.run _ X.stack _ _ ⟨Value.ref e' :: us, []⟩ (Value.ref e' :: us) _ _ E (hr.make C us []) (I2.env0.make C us []) hb' r2 hq) fun r s' hq' => ?_)
    cases r with
    | error e => exact hx pins σ _ _ e s' I2 hq'
    | ok fl =>
      cases fl with
      | ret u =>
        obtain ⟨v, H', I3, rv, ev, q3⟩ := I2.after hq'
        subst ev
        exact ⟨rv, ⟨V.ref e', H', I3, rfl, q3⟩⟩
      | next => exact False.elim hq'
      | brk => exact False.elim hq'
      | cont => exact False.elim hq'
  · have z := q hh.objs.size (I1.hok.fresh (Nat.le_refl _))
    have z2 := F.len _ _ _ _ z
    have z3 : vs.length + 1 = ps.length := z2
    have z4 := r.length
    rw [sizeLine_eq, List.nil_append]; omega
end
theorem lands_againW2 {M : Model} {A : Around} {E : Value → Shared → Prop} {s : Shared} {B : Heap} {l : List Env} {e : Addr} {C a0 : Value} {Q : Unit → Shared → Prop} (fl : Heap.FlyingW B l e C a0 s.heap)
    (h : ∀ h', Heap.FlyingW B l e C a0 h' → s.heap.UpToSlots h' → DK s.heap h' → Q () { s with heap := h' }) : wpAny M A (setFlight (.ref e) none) Q E s := by
  refine wpAny_mono (wpAny_both (lands_againW (Q := fun _ s' => ∃ h', s' = { s with heap := h' } ∧ Heap.FlyingW B l e C a0 h' ∧ s.heap.UpToSlots h') (E := E) fl fun h' a b => ⟨h', rfl, a, b⟩) (dk_fly (E := E) fl.2.2.2.at)) (fun _ s' z => ?_) fun _ _ z => z.1
  obtain ⟨⟨h', rfl, a, b⟩, k⟩ := z
  exact h h' a b k
def ExcO2 (x C : Addr) (dd : Option Addr) : HO := .ext fun h => ∃ o, h.get? x = some o ∧ o.cls = .ref C ∧ o.dict = dd ∧ notCls o = true
section
variable {X : Cx} {pins : List (Addr × Obj)} {σ : St} {H : Hp} {s : Shared} {x : Addr}
theorem Inv.adoptX2 {C : Addr} {dd : Option Addr} (I : Inv X pins σ H s) (hn : H x = none) (h0 : X.s₀.heap.get? x = none) (hL : x ≠ X.env.locals) (hc : ∀ y c, X.env.cells.lookup y = some c → c ≠ x) (hp : ∀ p ∈ X.pn ++ pins, p.1 ≠ x)
    (ho : ∃ o, s.heap.get? x = some o ∧ o.cls = .ref C ∧ o.dict = dd ∧ notCls o = true) : Inv X pins σ (upd H x (ExcO2 x C dd)) s := by
  refine ⟨I.ok, I.os, I.bare, ⟨I.base.keep, I.base.slot, fun b o e n hx => ?_, I.base.there, fun b xs e => ?_, fun b o u e => ?_, fun b ps e => ?_⟩, I.loc, I.cell, ?_, fun y c e => ?_, fun p hq => ?_, fun b u e => ?_, I.len⟩
  · have : b ≠ x := fun z => by rw [z, h0] at e; cases e
    rw [upd_ne this]; exact I.base.free b o e n hx
  · have := I.base.tups b xs e
    rw [upd_ne (ne_of_none this hn)]; exact this
  · have := I.base.frzs b o u e
    rw [upd_ne (ne_of_none this hn)]; exact this
  · obtain ⟨more, this⟩ := I.base.tbls b ps e
    exact ⟨more, by rw [upd_ne (ne_of_none this hn)]; exact this⟩
  · rw [upd_ne (Ne.symm hL)]; exact I.free
  · rw [upd_ne (hc y c e)]; exact I.freeC y c e
  · obtain ⟨e, n, ne, nf, d⟩ := I.pin p hq
    exact ⟨e, by rw [upd_ne (hp p hq)]; exact n, ne, nf, d⟩
  · by_cases hb : b = x
    · subst hb
      rw [upd_same] at e
      cases e
      obtain ⟨o, h1, h2⟩ := ho
      exact ⟨⟨o, h1, h2⟩, ⟨o, h1⟩, fun h1 h2 ⟨o, ho, r⟩ k => ⟨o, k o ho, r⟩⟩
    · rw [upd_ne hb] at e
      exact (I.hok b u e).stay (fun _ _ _ q => q) (fun c q => by rw [upd_ne (ne_of_none q hn)]; exact q) fun c xs q => by rw [upd_ne (ne_of_none q hn)]; exact q
def tTryAs2 (K : PySem.W.Frag) (sp : Sp) (ta : TA) (i : Nat) (CF : Addr) (ts : TS) : TS := fun D σ H => ta σ H fun vs H1 => sp vs H1 (fun _ H2 => D.nx σ H2) (fun cls dd H2 => ∃ C, cls = .ref C ∧ exmOne K (.ref C) (.ref CF) = some true ∧ ∀ x, H2 x = none →
  ts { nx := fun σ' H' => ∃ v, σ'[i]? = some (some v) ∧ D.nx (σ'.set i none) H', rt := fun _ _ => False } (σ.set i (some (.ref x))) (upd H2 x (ExcO2 x C dd)))
theorem ps_tryAs2 {k : Nat} {f CF : Addr} {fd : FuncData} {ps : List Str} {sp : Sp} {fn cn n : Str} {p pos ep np hp tp : Pos} {e : Expr} {es : List Expr} {ta : TA} {i : Nat} {b₀ : Stmt} {suite : List Stmt} {ts : TS}
    (F : FnOk X.prog X.w X.K X.mg X.base (CX2 X.prog X.w) k f fd ps sp) (hr : Room k X.A) (hg : Gl X fn) (hm : X.mg fn = some (.ref f)) (hk : PySem.W.keepIn X.K (.ref f) = true) (hb : Binds X.K fd ps []) (ha : PA X.nox (e :: es) ta)
    (hgc : Gl X cn) (hmc : X.mg cn = some (.ref CF)) (hN : X.N.Nodup) (hi : X.N[i]? = some n) (hx : X.env.scope.names.lookup n = some .local) (hs : ∀ x, PSs (X.inSuite x) (b₀ :: suite) ts) (hst : X.stack = X.env :: X.outer ∧ X.env.frame = some X.env.locals ∧ X.ex = [])
    (hdb : (fn == ("__debug__" : Str)) = false := by decide) (hdc : (cn == ("__debug__" : Str)) = false := by decide) (he : starEach (e :: es) X.env = (false, eval e X.env) :: starEach es X.env := by rfl) (hpl : (backTo pos (starEach es X.env)).any (·.1) = false := by rfl)
    (hsw : swapsWith (.Call (.Name fn p) (e :: es) [] pos) none ep.line X.env = pure false := by rfl) :
    PS X (.Try [.Expr (.Call (.Name fn p) (e :: es) [] pos) ep] [.ExceptHandler (some (.Name cn np)) (some n) (b₀ :: suite) hp] [] [] tp) (tTryAs2 X.K sp ta i CF ts) := by
  intro pins s σ H D I h
  have hil : i < σ.length := by rw [I.len]; exact (List.getElem?_eq_some_iff.mp hi).1
  refine wpAny_Try_except (wpAny_execs_cons (wpAny_Expr_any (wpAny_Call_Name_kw (ld_glob I hg hm ?_ hdb)) I.quiet hsw))
  refine PySem.W.callWith_K (h₀ := X.base) I.ok.mod.kin hk (wpAny_mono (ha pos pins s σ H _ (I.wish _) h) (fun us s1 ⟨vs, H1, I1, r, q⟩ => ⟨I1.unwish.kIn, ?_⟩) fun _ _ z => z.elim) he hpl
  have I1 := I1.unwish
  have hl : (us ++ []).length = ps.length := by rw [List.append_nil, ← r.length]; exact F.len _ _ _ _ q
  have hb' := hb s1 us I1.kIn hl
  rw [List.append_nil] at hb'
  refine wpAny_call (codeAny_mono (F.run X.A X.stack s1 H1 ⟨us, []⟩ us vs _ _ hr I1.env0 hb' r q) fun r s2 hq => ?_)
  cases r with
  | ok fl =>
    cases fl with
    | ret u =>
      obtain ⟨v, H2, I2, _, q2⟩ := I1.after hq
      exact wpAny_execs_nil (wpAny_execs_nil ⟨σ, H2, I2, q2⟩)
    | next => exact False.elim hq
    | brk => exact False.elim hq
    | cont => exact False.elim hq
  | error ev =>
    obtain ⟨x, C, a0, B, H2, dd, rfl, os, bare, U, hok, fl, c1, c2, nx, hxn, di, C', eC, hex, q2⟩ := hq
    cases eC
    have fl0 : Heap.FlyingW B (X.env :: X.outer) x (.ref C) a0 s2.heap := by rw [← hst.1]; exact fl
    have hfr : X.A.frames = some (X.env :: X.outer) := by rw [← hst.1]; exact I1.ok.frames
    have ff : ∀ b ∈ frs X.stack, ∃ o, s2.heap.get? b = some o ∧ ∀ vs, o.data ≠ .fields vs := fun b hb => (fl.2.2.1.mem (b := b) hb).2
    show wpAny _ _ (noteFrame (.ref x) X.env) _ _ s2
    refine looks_on2 hfr hst.2.1 fl0 fun h3 held up3 dk3 => ?_
    refine lands2 (s := { s2 with heap := h3 }) held fun h4 fl4 up4 dk4 => ?_
    have inv : ∀ {h' : Heap}, B.StaysIn h' → s2.heap.UpToSlots h' → Inv X pins σ H2 { s2 with heap := h' } := fun {h'} st up =>
      I1.call' (s' := { s2 with heap := h' }) (ch := []) os (U.fly fl.1 st c1 up ff) (hok.fly c2 fl.1 st) bare (fun b z => nomatch z)
    have I4 := inv fl4.1 (up3.trans up4)
    obtain ⟨ob4, hob4, hcl4⟩ := fl4.there
    refine wpAny_handleBy_cons (codeAny_handlers_test (ld_glob (X := X.inSuite x) (I4.inSuite x) hgc hmc ?_ hdc)) (by intro q; cases q)
    have LT : Looks (model X.prog X.w) h4 (typeOf (.ref x)) (.ref C) := by rw [← hcl4]; exact (Looks.ld hob4).andThen .now
    refine Looks.here (s := { s2 with heap := h4 }) (exm_one (M := model X.prog X.w) I4.kIn LT hex) ?_
    refine codeAny_handlers_suite_as ?_
    refine lands_againW2 (s := { s2 with heap := h4 }) fl4 fun h5 fl5 up5 dk5 => ?_
    have I5 := inv fl5.1 ((up3.trans up4).trans up5)
    have h0 : X.s₀.heap.get? x = none := by
      cases z : X.s₀.heap.get? x with
      | none => rfl
      | some o =>
        obtain ⟨o', e'⟩ := I1.base.there x o z (by rw [hst.2.2]; exact fun z => nomatch z)
        rw [nx] at e'; cases e'
    have I6 : Inv X pins σ (upd H2 x (ExcO2 x C dd)) { s2 with heap := h5 } := by
      refine I5.adoptX2 hxn h0 ?_ ?_ ?_ ?_
      · obtain ⟨m, ⟨o, _, _, ho, _⟩, _⟩ := I1.loc
        exact fun z => by rw [z, ho] at nx; cases nx
      · intro y c e z
        obtain ⟨v, o, ho, _⟩ := I1.cell y c e
        rw [z, nx] at ho; cases ho
      · intro p' hp' z
        have := (I1.pin p' hp').1
        rw [z, nx] at this; cases this
      · obtain ⟨_, _, _, o, vs5, _, _, _, ho, ⟨hc, _⟩, hd5, _⟩ := fl5
        obtain ⟨o', ho', hd'⟩ := ((dk3.trans dk4).trans dk5).is di
        have ho : h5.get? x = some o := ho
        rw [ho] at ho'; cases ho'
        exact ⟨o, ho, hc, hd', by unfold notCls; rw [hd5]⟩
    refine store_ok (X := X.inSuite x) (i := i) (v := .ref x) (I6.inSuite x) hN hi (.inl hx) rfl (fun s7 I7 => ?_) (.inr hx)
    refine wpAny_mono (hs x pins s7 (σ.set i (some (.ref x))) _ _ I7 (q2 x hxn)) (fun f' s8 h8 => ?_) fun _ _ z => z.elim
    cases f' with
    | next =>
      obtain ⟨σ8, H8, I8, v8, hv8, q8⟩ := h8
      have I8 := I8.outSuite I1.ok
      show wpAny _ _ (do bindName X.env n .none; unbindBehindTheSuite X.env n hp) _ _ s8
      refine wpAny_bind (wpAny_bindName (store_ok (i := i) (v := .non) I8 hN hi (.inl hx) rfl (fun s9 I9 => ?_) (.inr hx)))
      have hl8 : i < σ8.length := (List.getElem?_eq_some_iff.mp hv8).1
      unfold unbindBehindTheSuite
      refine wpAny_onRaise (unbind_ok (i := i) (v := .non) I9 hN hi hx (List.getElem?_set_self hl8) fun s10 I10 => ?_)
      rw [List.set_set] at I10
      exact ⟨_, H8, I10, q8⟩
    | ret u => obtain ⟨_, _, _, _, _, z⟩ := h8; exact z.elim
    | brk => obtain ⟨_, _, _, z⟩ := h8; exact z.elim
    | cont => obtain ⟨_, _, _, z⟩ := h8; exact z.elim
end
theorem xat2 {x C : Addr} {dd : Option Addr} {h : Heap} (p : ∃ o, h.get? x = some o ∧ o.cls = .ref C ∧ o.dict = dd ∧ notCls o = true) : XAt x C h := let ⟨o, a, b, _⟩ := p; ⟨o, a, b⟩
def rIsX2 (K : PySem.W.Frag) : List V → Hp → VK → Prop := fun xs H Q => ∃ x C dd c b, H x = some (ExcO2 x C dd) ∧ XTell K C ∧ ((∃ D, xs = [.ref x, .ref D] ∧ c = Value.ref D) ∨ (∃ T, xs = [.ref x, .ty T] ∧ c = Value.type T)) ∧ kitOne K (.ref C) c = some b ∧ Q (.bl b) H
section
open PySem.Calls Builtin Builtin.ObjectAttr
variable {X : Cx}
theorem call_isX2 : CallR X (.builtin "isinstance") (rIsX2 X.K) := by
  intro pins s σ H xs us Q I r h
  obtain ⟨x, C, dd, c, b, hx, T, hc, hk, q⟩ := h
  have hp : XAt x C s.heap := xat2 (I.hok x _ hx).1
  obtain ⟨u, v, rfl, hu, hv⟩ : ∃ u v, us = [u, v] ∧ u = .ref x ∧ v = c := by
    rcases hc with ⟨D, rfl, rfl⟩ | ⟨T', rfl, rfl⟩
    · obtain ⟨u, v, rfl, ru, rv⟩ := vals2 r
      exact ⟨u, v, rfl, ru, rv⟩
    · obtain ⟨u, v, rfl, ru, rv⟩ := vals2 r
      exact ⟨u, v, rfl, ru, rv⟩
  subst hu hv
  exact kia_one (kitx_exc T) I.kIn hp hk (by intro z; cases z) fun tk => ⟨.bl b, H, I.tok _, rfl, q⟩
theorem exc_get {prog : Program} {w : World} {A : Around} {E : Value → Shared → Prop} {s : Shared} {K : PySem.W.Frag} {x C dx : Addr} {mA : Str → Option Value} {name : Str} {v : Value} {ex : Bool} {Q : Value → Shared → Prop} (X : K.In s.heap) (T : XTell K C) (ha : findIn K (.ref C) name = some none)
    (p : ∃ o, s.heap.get? x = some o ∧ o.cls = .ref C ∧ o.dict = some dx ∧ notCls o = true) (n : s.heap.Ns1 dx mA) (hv : mA name = some v) (hv' : handedIn v = true) (q : Q v { s with toks := s.toks + 1 }) : wpAny (model prog w) A (getAttr (.ref x) name ex) Q E s := by
  obtain ⟨hh, g, d, t, os⟩ := s
  obtain ⟨od, hod, hl⟩ := lookIn_ns n
  obtain ⟨o, ho, hc, hd, hn⟩ := id p
  have J : InstAt hh x o C (some od) := ⟨ho, hc, hn, by rw [hd]; exact hod⟩
  have L0 := (xat2 p).ty (M := model prog w); have L1 := looks_findIn (M := model prog w) X T.ga; have L2 := looks_findIn (M := model prog w) X T.gt
  have L3 := looks_find (M := model prog w) X J (findObj_own T.dc ha rfl (by rw [hl, hv])); have L4 := looks_mroIn (M := model prog w) X T.mb
  have hbd := F.attr_ValueError.ga.bind (.ref x)
  have hk : builtinKind "BaseException.__getattribute__" = some .slot := by decide +kernel
  have hs : splitId "BaseException.__getattribute__" = some ("BaseException", "__getattribute__") := by decide +kernel
  unfold getAttr getAttrBy; refine wpAny_bind (wpAny_mkText (wpAny_holding (wpAny_bind (L0.at (wpAny_bind (L1.at ?_))))))
  show wpAny _ _ (if (_ && _) then _ else _) _ _ _
  rw [if_neg (by rw [Bool.and_eq_true]; intro z; exact absurd z.2 (by decide +kernel))]
  unfold getAttrByItsOwn
  refine wpAny_bind ((show Looks _ _ (hookBefore (.ref C)) none from L2).at (wpAny_bind (wpAny_attempt (wpAny_holding ?_))))
  unfold callGetattribute boundAndCalled
  rw [if_neg (by intro z; rw [Bool.and_eq_true] at z; exact absurd z.2 (by decide +kernel)), hbd]
  refine wpAny_bind (wpAny_pure (wpAny_call ?_))
  refine codeAny_call_builtin F.attr_ValueError.ga.plain F.entry_bexc_ga ?_
  have hao := F.args_bexc_ga (.ref x) (.str name t)
  simp only [checkBuiltinCall, hk, hs]; unfold isInstance
  repeat lk
  exact handed_on hv' q
def tErrFld (K : PySem.W.Frag) (te : TE) (f : Str) : TE := fun σ H Q => te σ H fun v H1 => ∃ x C dx fs u, v = .ref x ∧ H1 x = some (ExcO2 x C (some dx)) ∧ H1 dx = some (.xd fs) ∧ XTell K C ∧ NoAttr K C f ∧ fs.lookup f = some u ∧ Q u H1
theorem pe_errFld {e : Expr} {te : TE} {f : Str} {pos : Pos} (he : PE X e te) (hb : attributeBase e f X.env (eval e X.env) = eval e X.env) : PE X (.Attribute e f pos) (tErrFld X.K te f) := by
  intro pins s σ H Q I h
  refine attr_of hb (thn (he pins s σ H _ I h) fun u s1 ⟨v, H1, I1, rv, x, C, dx, fs, y, ev, hx, hd, T, n, l, q⟩ => ?_)
  subst ev
  obtain rfl : u = Value.ref x := rv
  obtain ⟨mA, ns, r⟩ := I1.hok dx _ hd
  obtain ⟨z, hz, rz⟩ := RelO.some_of (v := y) (o := mA f) (by rw [← l]; exact r f)
  exact exc_get I1.kIn T n (I1.hok x _ hx).1 ns hz (handed_of rz) ⟨y, H1, I1.tok _, rz, q⟩
end
end L2

namespace L2
open PySem PySem.W PyProof.Rows
def SpErrI (C : Addr) (f : Str) : Sp := fun vs H Q _ => ∃ (e : Addr) (n : Int), vs = [.ref e, .int n] ∧ 0 ≤ n ∧ n < 1000000 ∧ H e = some (ErrO e C none) ∧ ∀ dx, H dx = none → dx ≠ e → Q .non (upd (upd H e (ErrO e C (some dx))) dx (.xd [(f, .int n)]))
theorem errI_body {K : PySem.W.Frag} {C fI : Addr} {f a b x y : Str} {vs : List V} {H : Hp} {Q : VK} {E : XK} (M : XClsI K C fI) (S : XStore K C f) (ha : (Str.empty ++ a).length ≤ 1000) (hb : b.length ≤ 1000) (h : SpErrI C f vs H Q E) :
    tSeq (tDrop (tErrInit K (tCons (tVar 0) (tCons (tFsI a b (tVar 1)) tNil)))) (sErrSet K (tVar 0) (tVar 1) f) { nx := fun _ H' => Q .non H', rt := Q } (start [x, y] vs) H := by
  obtain ⟨e, n, rfl, hn0, hn, he, q⟩ := h
  have hl : ((toString n : String) : Str).length ≤ 6 := toString_length_le hn0 (by decide) (by omega)
  have app : ∀ u v : Str, (u ++ v).length = u.length + v.length := fun u v => Str.length_append u v
  refine ⟨.ref e, rfl, by rw [sizeLine_eq]; omega, .int n, rfl, n, rfl, ?_, by rw [app, sizeLine_eq]; omega, by rw [app, app, sizeLine_eq]; omega, e, C, none, _, rfl, he, ⟨fI, M⟩, .int n, rfl, .ref e, rfl, e, C, rfl, he, S, fun dx h1 h2 => q dx h1 h2⟩
  have h3 : n.natAbs < 2 ^ 1920 := Nat.lt_of_lt_of_le (show n.natAbs < 2 ^ 20 by omega) (Nat.pow_le_pow_right (by decide) (by decide))
  by_cases hz : n.natAbs = 0
  · rw [hz]; decide
  · exact (Nat.log2_lt hz).mpr h3
def SpX (K : PySem.W.Frag) (C : Addr) (f : Str) (pre bad : List D → Prop) (res err : List D → D) : Sp := fun vs H Q E => ∃ G ds, Same G H ∧ Reps K G ds vs ∧ pre ds ∧
  (¬ bad ds → ∀ v G' H', Ext G H G' H' → Rep K G' (res ds) v → Q v H') ∧ (bad ds → ∀ dx v G' H', Ext G H G' H' → G' dx = some (.xd [(f, v)]) → Rep K G' (err ds) v → E (.ref C) (some dx) H')
def RtX2 (K : PySem.W.Frag) (G H₀ : Hp) (E : XK) (C : Addr) (f : Str) (d : D) : Prop := ∀ dx v F H', Ext G H₀ F H' → F dx = some (.xd [(f, v)]) → Rep K F d v → E (.ref C) (some dx) H'
def xsl2 (K : PySem.W.Frag) (x C dx : Addr) (f : Str) (d : D) : Sl := .g (.ref x) [] fun F _ => F x = some (ExcO2 x C (some dx)) ∧ ∃ v, F dx = some (.xd [(f, v)]) ∧ Rep K F d v
section
variable {K : PySem.W.Frag} {H : Hp} {vs : List V} {Q : VK} {E : XK} {N : List Str} {t : TS} {C : Addr} {f : Str} {pre bad : List D → Prop} {res err : List D → D}
theorem spX_len {n : Nat} (hpre : ∀ ds, pre ds → ds.length = n) (h : SpX K C f pre bad res err vs H Q E) : vs.length = n := by
  obtain ⟨G, ds, sm, r, hp, q⟩ := h
  rw [← r.length]; exact hpre ds hp
theorem go_spX (h : SpX K C f pre bad res err vs H Q E) (hN : vs.length ≤ N.length) (body : ∀ G ds, pre ds → (¬ bad ds → RtD K G H Q (res ds)) → (bad ds → RtX2 K G H E C f (err ds)) → Go K G H G { nx := fun _ H' => Q .non H', rt := Q } (slots N.length ds) t) :
    t { nx := fun _ H' => Q .non H', rt := Q } (start N vs) H := by
  obtain ⟨G, ds, sm, r, hp, q1, q2⟩ := h
  exact body G ds hp (fun nb v F H' e h4 => q1 nb v F H' e h4) (fun b dx v F H' e h1 h2 => q2 b dx v F H' e h1 h2) G H _ (sat_start sm r hN)
end
theorem xsl2_stab (K : PySem.W.Frag) (x C dx : Addr) (f : Str) (d : D) : Stab [] fun F _ => F x = some (ExcO2 x C (some dx)) ∧ ∃ v, F dx = some (.xd [(f, v)]) ∧ Rep K F d v :=
  fun F1 H1 F2 H2 sf _ ⟨a, v, b, c⟩ => ⟨sf _ _ a, v, sf _ _ b, c.mono sf⟩
section
variable {K : PySem.W.Frag} {G H₀ L : Hp} {ss : List Sl} {ta tb te : TE} {t : TA} {ds : List D} {D0 : Ends} {E E' : XK} {C fI : Addr} {f : Str} {pre bad : List D → Prop} {res err : List D → D}
theorem go_raiseI {n : Int} (M : XClsI K C fI) (a : EvAF K G H₀ L ss t [.int n]) (hn0 : 0 ≤ n) (hn : n < 1000000) (h : RtX2 K G H₀ E C f (.int n)) : Go K G H₀ L D0 ss (tRaiseV K E H₀ (tErrNew C (SpErrI C f) E' t)) := fun F H σ S =>
  a F H σ _ S fun vs F1 H1 e1 r1 => by
    rw [Reps] at r1
    obtain ⟨v1, r, rfl, rv1, r1⟩ := r1
    rw [Reps] at r1
    subst r1
    rw [rv1.of_int]
    intro e he
    refine ⟨e, n, rfl, hn0, hn, upd_same, fun dx hdx hne => ⟨rfl, e, C, some dx, rfl, ?_, ?_, ⟨fI, M⟩, ?_⟩⟩
    · rw [upd_ne (Ne.symm hne), upd_same]
    · exact (S.ext.trans e1).hh.free he
    · have hd1 : H1 dx = none := by rw [upd_ne hne] at hdx; exact hdx
      have eH : del (upd (upd (upd H1 e (ErrO e C none)) e (ErrO e C (some dx))) dx (.xd [(f, .int n)])) e = upd H1 dx (.xd [(f, .int n)]) := by
        funext b
        by_cases hb : b = e
        · rw [hb, del_same, upd_ne (Ne.symm hne), he]
        · rw [del_ne hb]
          by_cases hc : b = dx
          · rw [hc, upd_same, upd_same]
          · rw [upd_ne hc, upd_ne hc, upd_ne hb, upd_ne hb]
      rw [eH]
      exact h dx (.int n) _ _ ((S.ext.trans e1).newF (o := .xd [(f, .int n)]) hd1) upd_same Rep.int
theorem ev_callX2 (a : EvAF K G H₀ L ss t ds) (hp : pre ds) (hb : ¬ bad ds) : Ev K G H₀ L ss (tCall (SpX K C f pre bad res err) [] E t) (res ds) := fun F H σ Q S q =>
  a F H σ _ S fun vs F1 H1 e1 r1 => ⟨F1, ds, e1.fh, by rw [List.append_nil]; exact r1, hp, fun _ v G' H' e2 r => q _ _ _ (e1.trans e2) r, fun b => absurd b hb⟩
theorem go_tryX2 {i j : Nat} {CF : Addr} (a : EvAF K G H₀ L ss t ds) (hp : pre ds) (hb : bad ds) (hex : exmOne K (.ref C) (.ref CF) = some true) (hij : i ≠ j) (hil : i < ss.length) (hjl : j < ss.length)
    (h : ∀ x dx, Nx K G H₀ L D0.nx ((ss.set i .un).set j (xsl2 K x C dx f (err ds)))) : Go K G H₀ L D0 ss (tTryAs2 K (SpX K C f pre bad res err) t i CF (tAsg (tVar i) (gName j))) := fun F H σ S =>
  a F H σ _ S fun vs F1 H1 e1 r1 => by
    refine ⟨F1, ds, e1.fh, r1, hp, fun nb => absurd hb nb, fun _ dx v F2 H2 e2 hdx rv => ⟨C, rfl, hex, fun x hx => ?_⟩⟩
    have e3 := e1.trans e2
    have S2 := S.ext2 e3
    have hσ : i < σ.length := by rw [S.len]; exact hil
    refine ⟨.ref x, List.getElem?_set_self hσ, ?_⟩
    have g1 : ((σ.set i (some (V.ref x))).set j (some (V.ref x)))[i]? = some (some (V.ref x)) := by rw [List.getElem?_set_ne (Ne.symm hij)]; exact List.getElem?_set_self hσ
    refine ⟨.ref x, g1, ?_⟩
    have eσ : ((σ.set i (some (V.ref x))).set j (some (V.ref x))).set i none = (σ.set i none).set j (some (V.ref x)) := by
      rw [List.set_comm _ _ hij, List.set_set, List.set_comm _ _ (Ne.symm hij)]
      first | rfl | skip
    rw [eσ]
    have S3 : Sat K G H₀ L F2 H2 (σ.set i none) (ss.set i .un) := S2.put S2.ext S2.fl (by simp) (fun j hj => getD_set_ne (Ne.symm hj)) (fun _ => trivial) (by simp [Sl.ads]) (fun _ _ _ _ p hp => by simp [Sl.ads] at hp) fun j s' _ h => S2.ok j s' h
    have e := (Ext.refl S3.ext.fh).newF (o := ExcO2 x C (some dx)) hx
    have S4 := S3.ext2 e
    have fx : F2 x = none := S3.ext.fh.free hx
    refine h x dx _ _ _ (S4.put S4.ext S4.fl (by simp) (fun k hk => getD_set_ne (Ne.symm hk)) (fun hk => ?_) (by simp [xsl2, Sl.ads]) (fun k s' hk hs q hq => by simp [xsl2, Sl.ads] at hq) fun k s' hk hs => S4.ok k s' hs)
    rw [getD_set_self (by rw [S3.len]; exact hk)]
    exact ⟨rfl, (fun a ha => absurd ha List.not_mem_nil), ⟨upd_same, v, by rw [upd_ne (ne_of_none hdx fx)]; exact hdx, rv.mono e.gf⟩, xsl2_stab K x C dx f _⟩
theorem ev_isX2 {j : Nat} {x dx : Addr} {d : D} {c : Value} {cv : V} {b : Bool} (hs : ss[j]? = some (xsl2 K x C dx f d)) (T : XTell K C) (hc : (∃ D, cv = .ref D ∧ c = Value.ref D) ∨ (∃ T, cv = .ty T ∧ c = Value.type T)) (hk : kitOne K (.ref C) c = some b) :
    Ev K G H₀ L ss (tCB (rIsX2 K) (tCons (tVar j) (tCons (tC cv) tNil))) (.bl b) := fun F H σ Q S q => by
  obtain ⟨v, e, ew, ha, hw, st⟩ := S.get hs (by intro z; cases z)
  cases ew
  refine ⟨_, e, x, C, _, c, b, S.ext.fh _ _ hw.1, T, ?_, hk, q _ _ _ (Ext.refl S.ext.fh) Rep.bl⟩
  rcases hc with ⟨D, rfl, rfl⟩ | ⟨T', rfl, rfl⟩
  · exact .inl ⟨D, rfl, rfl⟩
  · exact .inr ⟨T', rfl, rfl⟩
theorem ev_errFld {j : Nat} {x dx : Addr} {d : D} (hs : ss[j]? = some (xsl2 K x C dx f d)) (T : XTell K C) (n : NoAttr K C f) : Ev K G H₀ L ss (tErrFld K (tVar j) f) d := fun F H σ Q S q => by
  obtain ⟨v, e, ew, ha, ⟨hx, y, hd, ry⟩, st⟩ := S.get hs (by intro z; cases z)
  cases ew
  exact ⟨_, e, x, C, dx, [(f, y)], y, rfl, S.ext.fh _ _ hx, S.ext.fh _ _ hd, T, n, by simp [List.lookup], q _ _ _ (Ext.refl S.ext.fh) ry⟩
end
section
variable {P : Program} {w : World} {K : PySem.W.Frag} {mg : Str → Option Value} {base : Heap}
theorem Fun.okX2 {x qual : Str} {st : Stmt} {f : Addr} {fd : FuncData} {N ps : List Str} {k : Nat} {sp : Sp} (F : Fun K x qual st f fd) (S : FnScope N ps (defScope st)) (len : ∀ vs H Q E, sp vs H Q E → vs.length = ps.length)
    (hbody : ∀ (cdv : Value) (A : Around) (outer : List Env) (s : Shared) (H : Hp) (vs : List V) (Q : VK) (E : XK), Room k (A.deeper (envOfC qual (defScope st) s.heap.objs.size f cdv)) → sp vs H Q E →
      ∃ t, PSs (cxOf (CX2 P w) P w K mg base N qual (defScope st) f cdv A outer s H E) (defBody st) t ∧ t { nx := fun _ H' => Q .non H', rt := Q } (start N vs) H) : FnOk P w K mg base (CX2 P w) (k + 1) f fd ps sp := by
  obtain ⟨oc, od, kV, doc, pm, an, cdv, ct, osl, rfl, lk, hcd⟩ := F.ex
  exact fn_of lk hcd S len fun A outer s H vs Q E hr hsp => hbody cdv A outer s H vs Q E hr hsp
end
end L2

namespace L2
open PySem PySem.W PyProof.Rows
section
variable {K : PySem.W.Frag} {G H₀ L : Hp} {ss : List Sl} {t : TA} {c : D} {E : XK} {pre : List D → Prop} {S2 : List D → Prop}
theorem ev_callE (a : EvAE K G H₀ L ss t S2) (hp : ∀ l, S2 l → pre l) : Ev K G H₀ L ss (tCall (SpD K pre fun _ => c) [] E t) c := fun F H σ Q S q =>
  a F H σ _ S fun l vs F1 H1 hl e1 r1 => ⟨F1, l, e1.fh, by rw [List.append_nil]; exact r1, hp l hl, fun v G' H' e2 r => q v G' H' (e1.trans e2) r⟩
end
end L2

set_option maxHeartbeats 8000000
namespace My
open PySem L2 PyProof.Rows
def top (i : Nat) : Stmt := PySem.Challenge.pw_folk_k10_rows_refused.main.body.getD i (.Pass ⟨0, 0, 0, 0⟩)
def clsAt (i j : Nat) : Stmt := match top i with
  | .ClassDef _ _ _ b _ _ _ _ _ _ _ => b.getD j (.Pass ⟨0, 0, 0, 0⟩)
  | s => s
abbrev s_NoRow_init : Stmt := clsAt 2 0
theorem sc_NoRow_init : FnScope ["self", "row"] ["self", "row"] (defScope s_NoRow_init) := ⟨rfl, rfl, rfl, by decide +kernel, rfl, by decide +kernel, by decide +kernel⟩
abbrev s_is_name : Stmt := top 13
theorem sc_is_name : FnScope ["text"] ["text"] (defScope s_is_name) := ⟨rfl, rfl, rfl, by decide +kernel, rfl, by decide +kernel, by decide +kernel⟩
abbrev s_is_sign : Stmt := top 14
theorem sc_is_sign : FnScope ["sign"] ["sign"] (defScope s_is_sign) := ⟨rfl, rfl, rfl, by decide +kernel, rfl, by decide +kernel, by decide +kernel⟩
abbrev s_is_text : Stmt := top 15
theorem sc_is_text : FnScope ["text"] ["text"] (defScope s_is_text) := ⟨rfl, rfl, rfl, by decide +kernel, rfl, by decide +kernel, by decide +kernel⟩
abbrev s_pair_fact : Stmt := top 16
theorem sc_pair_fact : FnScope ["one", "field", "other"] ["one", "field", "other"] (defScope s_pair_fact) := ⟨rfl, rfl, rfl, by decide +kernel, rfl, by decide +kernel, by decide +kernel⟩
abbrev s_fact_of : Stmt := top 18
theorem sc_fact_of : FnScope ["row", "words"] ["row"] (defScope s_fact_of) := ⟨rfl, rfl, rfl, by decide +kernel, rfl, by decide +kernel, by decide +kernel⟩
abbrev s_law_cell_at : Stmt := top 20
theorem sc_law_cell_at : FnScope ["_law_script", "_law_k"] ["_law_script", "_law_k"] (defScope s_law_cell_at) := ⟨rfl, rfl, rfl, by decide +kernel, rfl, by decide +kernel, by decide +kernel⟩
abbrev s_law_whole : Stmt := top 21
theorem sc_law_whole : FnScope ["_law_found"] ["_law_found"] (defScope s_law_whole) := ⟨rfl, rfl, rfl, by decide +kernel, rfl, by decide +kernel, by decide +kernel⟩
abbrev s_law_stream : Stmt := top 22
theorem sc_law_stream : FnScope ["_law_cell", "_law_many", "_law_found", "_law_number", "_law_k"] ["_law_cell", "_law_many"] (defScope s_law_stream) := ⟨rfl, rfl, rfl, by decide +kernel, rfl, by decide +kernel, by decide +kernel⟩
abbrev s_law_name : Stmt := top 23
theorem sc_law_name : FnScope ["_law_cell", "_law_letters"] ["_law_cell"] (defScope s_law_name) := ⟨rfl, rfl, rfl, by decide +kernel, rfl, by decide +kernel, by decide +kernel⟩
abbrev s_law_text : Stmt := top 24
theorem sc_law_text : FnScope ["_law_cell", "_law_signs", "_law_draws", "_law_text_here"] ["_law_cell"] (defScope s_law_text) := ⟨rfl, rfl, rfl, by decide +kernel, rfl, by decide +kernel, by decide +kernel⟩
abbrev s_law_bad_name : Stmt := top 25
theorem sc_law_bad_name : FnScope ["_law_name_here", "_law_draw", "_law_some"] ["_law_name_here", "_law_draw"] (defScope s_law_bad_name) := ⟨rfl, rfl, rfl, by decide +kernel, rfl, by decide +kernel, by decide +kernel⟩
abbrev s_law_spoiled : Stmt := top 26
theorem sc_law_spoiled : FnScope ["_law_card", "_law_field", "_law_text_here", "_law_way", "_law_draw"] ["_law_card", "_law_field", "_law_text_here", "_law_way", "_law_draw"] (defScope s_law_spoiled) := ⟨rfl, rfl, rfl, by decide +kernel, rfl, by decide +kernel, by decide +kernel⟩
abbrev s_law_refused : Stmt := top 27
theorem sc_law_refused : FnScope ["_law_row", "_law_caught", "e"] ["_law_row"] (defScope s_law_refused) := ⟨rfl, rfl, rfl, by decide +kernel, rfl, by decide +kernel, by decide +kernel⟩
abbrev s_law : Stmt := top 28
theorem sc_law : FnScope ["_law_script", "_law_k", "_law_card", "_law_cell", "_law_more", "_law_field", "_law_text_here", "_law_due"] ["_law_script"] (defScope s_law) := ⟨rfl, rfl, rfl, by decide +kernel, rfl, by decide +kernel, by decide +kernel⟩
set_option genInjectivity false in
set_option genSizeOf false in
structure Ad where
  (c_FolkError c_NoName c_NoPair c_NoRow c_NoText k_FIELDS k_PAIR_FIELDS f_NoRow_init f_is_name f_is_sign f_is_text f_pair_fact f_fact_of f_law_cell_at f_law_whole f_law_stream f_law_name f_law_text f_law_bad_name f_law_spoiled f_law_refused f_law : Addr)
  (u_LETTERS u_LONGEST_NAME u_LONGEST_TEXT u_NO_SIGN : Value)
  (d_NoRow_init d_is_name d_is_sign d_is_text d_pair_fact d_fact_of d_law_cell_at d_law_whole d_law_stream d_law_name d_law_text d_law_bad_name d_law_spoiled d_law_refused d_law : FuncData)
structure Tx (K : PySem.W.Frag) (mg : Str → Option Value) (ad0 : Ad) : Prop where
  M_FolkError : mg "FolkError" = some (.ref ad0.c_FolkError)
  M_NoName : mg "NoName" = some (.ref ad0.c_NoName)
  M_NoPair : mg "NoPair" = some (.ref ad0.c_NoPair)
  M_NoRow : mg "NoRow" = some (.ref ad0.c_NoRow)
  M_NoText : mg "NoText" = some (.ref ad0.c_NoText)
  XM_NoRow : XMk K ad0.c_NoRow ad0.f_NoRow_init
  XS_NoRow_row : XStore K ad0.c_NoRow "row"
  CB_FolkError : CInitB K ad0.c_FolkError
  T_NoRow : XTell K ad0.c_NoRow
  H_NoRow_FolkError : PySem.W.exmOne K (.ref ad0.c_NoRow) (.ref ad0.c_FolkError) = some true
  I_NoRow_ValueError : PySem.W.kitOne K (.ref ad0.c_NoRow) (.type "ValueError") = some true
  I_NoRow_NoRow : PySem.W.kitOne K (.ref ad0.c_NoRow) (.ref ad0.c_NoRow) = some true
  I_NoRow_NoName : PySem.W.kitOne K (.ref ad0.c_NoRow) (.ref ad0.c_NoName) = some false
  I_NoRow_NoText : PySem.W.kitOne K (.ref ad0.c_NoRow) (.ref ad0.c_NoText) = some false
  I_NoRow_NoPair : PySem.W.kitOne K (.ref ad0.c_NoRow) (.ref ad0.c_NoPair) = some false
  Na_NoRow_row : NoAttr K ad0.c_NoRow "row"
  M_FIELDS : mg "FIELDS" = some (.ref ad0.k_FIELDS)
  K_FIELDS : TupK K ad0.k_FIELDS [[110, 97, 109, 101], [102, 111, 114, 109, 101, 114], [119, 97, 121], [100, 97, 121], [109, 97, 114, 107]]
  M_PAIR_FIELDS : mg "PAIR_FIELDS" = some (.ref ad0.k_PAIR_FIELDS)
  K_PAIR_FIELDS : TupK K ad0.k_PAIR_FIELDS [[115, 97, 109, 101], [97, 112, 97, 114, 116]]
  M_LETTERS : mg "LETTERS" = some ad0.u_LETTERS
  R_LETTERS : RelV (.str (T [97, 98, 99, 100, 101, 102, 103, 104, 105, 106, 107, 108, 109, 110, 111, 112, 113, 114, 115, 116, 117, 118, 119, 120, 121, 122])) ad0.u_LETTERS
  M_LONGEST_NAME : mg "LONGEST_NAME" = some ad0.u_LONGEST_NAME
  R_LONGEST_NAME : RelV (.int 12) ad0.u_LONGEST_NAME
  M_LONGEST_TEXT : mg "LONGEST_TEXT" = some ad0.u_LONGEST_TEXT
  R_LONGEST_TEXT : RelV (.int 40) ad0.u_LONGEST_TEXT
  M_NO_SIGN : mg "NO_SIGN" = some ad0.u_NO_SIGN
  R_NO_SIGN : RelV (.int 37) ad0.u_NO_SIGN
  F_NoRow_init : Fun K "__init__" "NoRow.__init__" s_NoRow_init ad0.f_NoRow_init ad0.d_NoRow_init
  B_NoRow_init : Binds K ad0.d_NoRow_init ["self", "row"] []
  F_is_name : Fun K "is_name" "is_name" s_is_name ad0.f_is_name ad0.d_is_name
  B_is_name : Binds K ad0.d_is_name ["text"] []
  M_is_name : mg "is_name" = some (.ref ad0.f_is_name)
  F_is_sign : Fun K "is_sign" "is_sign" s_is_sign ad0.f_is_sign ad0.d_is_sign
  B_is_sign : Binds K ad0.d_is_sign ["sign"] []
  M_is_sign : mg "is_sign" = some (.ref ad0.f_is_sign)
  F_is_text : Fun K "is_text" "is_text" s_is_text ad0.f_is_text ad0.d_is_text
  B_is_text : Binds K ad0.d_is_text ["text"] []
  M_is_text : mg "is_text" = some (.ref ad0.f_is_text)
  F_pair_fact : Fun K "pair_fact" "pair_fact" s_pair_fact ad0.f_pair_fact ad0.d_pair_fact
  B_pair_fact : Binds K ad0.d_pair_fact ["one", "field", "other"] []
  M_pair_fact : mg "pair_fact" = some (.ref ad0.f_pair_fact)
  F_fact_of : Fun K "fact_of" "fact_of" s_fact_of ad0.f_fact_of ad0.d_fact_of
  B_fact_of : Binds K ad0.d_fact_of ["row"] []
  M_fact_of : mg "fact_of" = some (.ref ad0.f_fact_of)
  F_law_cell_at : Fun K "_law_cell_at" "_law_cell_at" s_law_cell_at ad0.f_law_cell_at ad0.d_law_cell_at
  B_law_cell_at : Binds K ad0.d_law_cell_at ["_law_script", "_law_k"] []
  M_law_cell_at : mg "_law_cell_at" = some (.ref ad0.f_law_cell_at)
  F_law_whole : Fun K "_law_whole" "_law_whole" s_law_whole ad0.f_law_whole ad0.d_law_whole
  B_law_whole : Binds K ad0.d_law_whole ["_law_found"] []
  M_law_whole : mg "_law_whole" = some (.ref ad0.f_law_whole)
  F_law_stream : Fun K "_law_stream" "_law_stream" s_law_stream ad0.f_law_stream ad0.d_law_stream
  B_law_stream : Binds K ad0.d_law_stream ["_law_cell", "_law_many"] []
  M_law_stream : mg "_law_stream" = some (.ref ad0.f_law_stream)
  F_law_name : Fun K "_law_name" "_law_name" s_law_name ad0.f_law_name ad0.d_law_name
  B_law_name : Binds K ad0.d_law_name ["_law_cell"] []
  M_law_name : mg "_law_name" = some (.ref ad0.f_law_name)
  F_law_text : Fun K "_law_text" "_law_text" s_law_text ad0.f_law_text ad0.d_law_text
  B_law_text : Binds K ad0.d_law_text ["_law_cell"] []
  M_law_text : mg "_law_text" = some (.ref ad0.f_law_text)
  F_law_bad_name : Fun K "_law_bad_name" "_law_bad_name" s_law_bad_name ad0.f_law_bad_name ad0.d_law_bad_name
  B_law_bad_name : Binds K ad0.d_law_bad_name ["_law_name_here", "_law_draw"] []
  M_law_bad_name : mg "_law_bad_name" = some (.ref ad0.f_law_bad_name)
  F_law_spoiled : Fun K "_law_spoiled" "_law_spoiled" s_law_spoiled ad0.f_law_spoiled ad0.d_law_spoiled
  B_law_spoiled : Binds K ad0.d_law_spoiled ["_law_card", "_law_field", "_law_text_here", "_law_way", "_law_draw"] []
  M_law_spoiled : mg "_law_spoiled" = some (.ref ad0.f_law_spoiled)
  F_law_refused : Fun K "_law_refused" "_law_refused" s_law_refused ad0.f_law_refused ad0.d_law_refused
  B_law_refused : Binds K ad0.d_law_refused ["_law_row"] []
  M_law_refused : mg "_law_refused" = some (.ref ad0.f_law_refused)
  F_law : Fun K "law" "law" s_law ad0.f_law ad0.d_law
  B_law : Binds K ad0.d_law ["_law_script"] []
  M_law : mg "law" = some (.ref ad0.f_law)
  z_ValueError : mg "ValueError" = none
  z_all : mg "all" = none
  z_bool : mg "bool" = none
  z_int : mg "int" = none
  z_isinstance : mg "isinstance" = none
  z_len : mg "len" = none
  z_max : mg "max" = none
  z_min : mg "min" = none
  z_ord : mg "ord" = none
  z_range : mg "range" = none
  z_tuple : mg "tuple" = none
section
variable {P : Program} {w : World} {K : PySem.W.Frag} {mg : Str → Option Value} {base : Heap} {ad0 : Ad}
def preCell (ds : List D) : Prop := ∃ (ns : List Int) (k : Int), ds = [.lst (ns.map .int), .int k] ∧ 0 ≤ k
def resCell : List D → D
  | [.lst xs, .int k] => xs.getD k.toNat (.int 0)
  | _ => .non
theorem ok_law_cell_at (Z : Tx K mg ad0) : FnOk P w K mg base CX0 1 ad0.f_law_cell_at ad0.d_law_cell_at ["_law_script", "_law_k"] (SpD K preCell resCell) := by
  refine Z.F_law_cell_at.ok sc_law_cell_at (fun vs H Q E h => spD_len (n := 2) (by rintro ds ⟨ns, k, rfl, _⟩; rfl) h) (fun cdv A outer s H vs Q E hr h => ⟨_, (pss_cons (ps_if (pt_cmpR op_lt (pv 1) (pe_callB call_len_seq (by rfl) Z.z_len boot_len (pa_cons (pv 0) pa_nil)) (nomark _)) (pss_one (ps_ret (pe_ix (show IxR _ (rIxL K) from ix_list) (pv 0) (pv 1) (fun _ _ => rfl)))) pss_nil)
      (pss_one (ps_ret pe_int))), ?_⟩)
  refine go_spD h (by rw [spD_len (n := 2) (by rintro ds ⟨ns, k, rfl, _⟩; rfl) h]; decide) fun G ds hp rt => ?_
  obtain ⟨ns, k, rfl, hk⟩ := hp
  have ll : (ns.map D.int).length = ns.length := by simp
  refine go_seq (go_if (evt_test (ev_cmpI (g := fun i j => decide (i < j)) (ev_var rfl).b (ev_lenL (ev_var rfl).l).b)) (fun hb => ?_) (fun hb => ?_))
  · simp only [decide_eq_true_eq] at hb
    have hk2 : k.toNat < ns.length := by omega
    refine go_ret (ev_ixL (d := .int (ns.getD k.toNat 0)) (ev_var rfl).l (ev_var rfl).b ?_) ?_
    · have := atI_nat (xs := ns.map D.int) (j := k.toNat) (v := D.int (ns.getD k.toNat 0)) (by rw [List.getElem?_map, List.getD_eq_getElem?_getD]; simp [hk2])
      rw [show ((k.toNat : Nat) : Int) = k by omega] at this
      exact this
    · have e : resCell [D.lst (ns.map D.int), D.int k] = .int (ns.getD k.toNat 0) := by
        simp [resCell, List.getD_eq_getElem?_getD, List.getElem?_map, hk2]
      rw [e] at rt; exact rt
  · simp only [decide_eq_false_iff_not] at hb
    have e : resCell [D.lst (ns.map D.int), D.int k] = .int 0 := by
      simp [resCell, List.getD_eq_getElem?_getD, List.getElem?_map, show ns[k.toNat]? = none from List.getElem?_eq_none (by omega)]
    rw [e] at rt
    refine go_next ?_
    ((try dsimp only); refine nx_go ?_)
    exact go_ret ev_int rt
def M : Int := 4294967311
def num (c : Int) : Nat → Int
  | 0 => c % M + 48271
  | k + 1 => (num c k * num c k + 69621 * num c k + k) % M
theorem num_rng (c : Int) : ∀ k, 0 ≤ num c k ∧ num c k < M + 48271
  | 0 => ⟨by have := Int.emod_nonneg c (show M ≠ 0 by decide); show 0 ≤ c % M + 48271; omega, by have := Int.emod_lt_of_pos c (show 0 < M by decide); show c % M + 48271 < M + 48271; omega⟩
  | k + 1 => ⟨Int.emod_nonneg _ (by decide), by have := Int.emod_lt_of_pos (num c k * num c k + 69621 * num c k + k) (show 0 < M by decide); show _ % M < M + 48271; omega⟩
def streamD (c : Int) (m : Nat) : List D := (List.range m).map fun i => .int (num c (i + 2))
def preStream (ds : List D) : Prop := ∃ c m : Int, ds = [.int c, .int m] ∧ 0 ≤ m ∧ m ≤ 1000
def resStream : List D → List D
  | [.int c, .int m] => streamD c m.toNat
  | _ => []
theorem ok_law_stream (Z : Tx K mg ad0) : FnOk P w K mg base CX0 1 ad0.f_law_stream ad0.d_law_stream ["_law_cell", "_law_many"] (SpO K preStream resStream) := by
  refine Z.F_law_stream.ok sc_law_stream (fun vs H Q E h => spO_len (n := 2) (by rintro ds ⟨c, m, rfl, _⟩; rfl) h) (fun cdv A outer s H vs Q E hr h => ⟨_, (pss_cons (ps_set (i := 2) sc_law_stream.nd rfl (Or.inl rfl) (pe_lst pa_nil))
      (pss_cons (ps_set (i := 3) sc_law_stream.nd rfl (Or.inl rfl) (pe_op op_add (pe_op op_mod (pv 0) pe_int) pe_int))
      (pss_cons (ps_for PassesOwn.never rfl (pi_range1 (by rfl) Z.z_range (pa_cons (pe_op op_add (pv 1) pe_int) pa_nil)) (pg_name (i := 4) sc_law_stream.nd rfl (Or.inl rfl)) (pss_cons (ps_set (i := 3) sc_law_stream.nd rfl (Or.inl rfl) (pe_op op_mod (pe_op op_add (pe_op op_add (pe_op op_mul (pv 3) (pv 3)) (pe_op op_mul pe_int (pv 3))) (pv 4)) pe_int))
      (pss_one (ps_expr (pe_bm F.plainAttrs_list F.slot_list_append F.type_list_append mt_append (pv 2) (pa_cons (pv 3) pa_nil))))))
      (pss_one (ps_ret (pe_slice sl_list (pv 2) (po_some pe_int) po_none)))))), ?_⟩)
  refine go_spO h (by rw [spO_len (n := 2) (by rintro ds ⟨c, m, rfl, _⟩; rfl) h]; decide) fun G ds hp rt => ?_
  obtain ⟨c, m, rfl, hm0, hm1⟩ := hp
  refine go_seq (go_setO (evo_lst evaf_nil (by decide)) fun p => ?_)
  ((try dsimp only); refine nx_go ?_)
  refine go_seq (go_set (ev_add (ev_mod (ev_var rfl).b ev_int.b (by decide)).b ev_int.b) ?_)
  ((try dsimp only); refine nx_go ?_)
  refine go_seq (go_range (n := m + 1) (fun k ss => ∃ v4, ss = [.d (.int c), .d (.int m), .o p ((List.range k).map fun i => .int (num c (i + 1))), .d (.int (num c k)), v4]) (eva_cons (ev_add (ev_var rfl).b ev_int.b).b eva_nil) ⟨by omega, by omega⟩ ⟨.un, rfl⟩ ?_ ?_ (fun _ _ _ h => h))
  · rintro k ss hk ⟨v4, rfl⟩ N hN
    have hr := num_rng c k
    rw [show M = 4294967311 from rfl] at hr
    refine go_seq (go_set (ev_mod (ev_add (ev_add (ev_mul (ev_var rfl).b (ev_var rfl).b ?_).b (ev_mul ev_int.b (ev_var rfl).b ?_).b).b (ev_var rfl).b).b ev_int.b (by decide)) ?_)
    · exact .inl ⟨by omega, by omega⟩
    · exact .inl ⟨by decide, by decide⟩
    · ((try dsimp only); refine nx_go ?_)
      refine go_append rfl (ev_var rfl) ?_ ?_
      · rw [List.length_map, List.length_range, sizeLine_eq]; omega
      · refine hN _ ⟨.d (.int k), ?_⟩
        rw [List.range_succ, List.map_append]
        rfl
  · rintro ss ⟨v4, rfl⟩
    ((try dsimp only); refine nx_go ?_)
    refine go_retO (evo_slL (evl_own rfl) (evp_part ev_int.b) evp_no) ?_
    have e : cutD ((List.range (m + 1).toNat).map fun i => D.int (num c (i + 1))) (some 1) none = resStream [.int c, .int m] := by
      rw [cutD_from _ (by decide), show (m + 1).toNat = m.toNat + 1 by omega]
      show List.drop 1 _ = streamD c m.toNat
      rw [List.range_succ_eq_map, List.map_cons, List.drop_succ_cons, List.drop_zero, List.map_map]
      rfl
    rw [e]; exact rt
theorem small {n : Nat} (h : n ≤ 1000) : n ≤ sizeLine := by rw [sizeLine_eq]; omega
theorem atI_mod {α : Type} (xs : List α) (z : α) (x : Int) {n : Int} (hn : (xs.length : Int) = n) (h0 : 0 < n) : atI xs (x % n) = some (xs.getD (x % n).toNat z) := by
  have h1 := Int.emod_nonneg x (show n ≠ 0 by omega)
  have h2 := Int.emod_lt_of_pos x h0
  have := atI_nat (xs := xs) (j := (x % n).toNat) (v := xs.getD (x % n).toNat z) (by rw [List.getD_eq_getElem?_getD, List.getElem?_eq_getElem (by omega)]; rfl)
  rw [show (((x % n).toNat : Nat) : Int) = x % n by omega] at this
  exact this
def lets : List Nat := ("abcdefghijklmnopqrstuvwxyz" : Str).cps.toList
theorem lets_len : lets.length = 26 := by decide +kernel
theorem lets_lt : ∀ c ∈ lets, c < 128 := by decide +kernel
def letter (x : Int) : Nat := lets.getD (x % 26).toNat 0
theorem at_lets (x : Int) : atI lets (x % 26) = some (letter x) := atI_mod lets 0 x (by rw [lets_len]; rfl) (by decide)
theorem letter_mem (x : Int) : letter x ∈ lets := by
  have h1 := Int.emod_nonneg x (show (26 : Int) ≠ 0 by decide)
  have h2 := Int.emod_lt_of_pos x (show (0 : Int) < 26 by decide)
  unfold letter
  rw [List.getD_eq_getElem?_getD, List.getElem?_eq_getElem (by rw [lets_len]; omega)]
  exact List.getElem_mem _
def signs : List Nat := ((List.range 95).map (· + 32)).filter (· != 37)
theorem signs_len : signs.length = 94 := by decide +kernel
theorem signs_lt : ∀ c ∈ signs, c < 128 := by decide +kernel
theorem at_signs (x : Int) : atI signs (x % 94) = some (signs.getD (x % 94).toNat 0) := atI_mod signs 0 x (by rw [signs_len]; rfl) (by decide)
theorem sign_mem (x : Int) : signs.getD (x % 94).toNat 0 ∈ signs := by
  have h1 := Int.emod_nonneg x (show (94 : Int) ≠ 0 by decide)
  have h2 := Int.emod_lt_of_pos x (show (0 : Int) < 94 by decide)
  rw [List.getD_eq_getElem?_getD, List.getElem?_eq_getElem (by rw [signs_len]; omega)]
  exact List.getElem_mem _
def flds : List (List Nat) := [[110, 97, 109, 101], [102, 111, 114, 109, 101, 114], [119, 97, 121], [100, 97, 121], [109, 97, 114, 107]]
def prs : List (List Nat) := [[115, 97, 109, 101], [97, 112, 97, 114, 116]]
def NameOk (n : List Nat) : Prop := 1 ≤ n.length ∧ n.length ≤ 12 ∧ ∀ c ∈ n, c ∈ lets
instance (n : List Nat) : Decidable (NameOk n) := by unfold NameOk; exact inferInstance
def TextOk (t : List Nat) : Prop := 1 ≤ t.length ∧ t.length ≤ 40 ∧ t = stripL [32].contains t ∧ ∀ c ∈ t, c ∈ signs
def preS (ds : List D) : Prop := ∃ l, ds = [.str l] ∧ l.length ≤ 1000
def nameB (l : List Nat) : Bool := (decide ((1 : Int) ≤ (l.length : Int)) && decide ((l.length : Int) ≤ 12)) && l.all fun c => decide (c ∈ lets)
def resName : List D → D
  | [.str l] => .bl (nameB l)
  | _ => .non
theorem ok_is_name (Z : Tx K mg ad0) : FnOk P w K mg base CX0 1 ad0.f_is_name ad0.d_is_name ["text"] (SpD K preS resName) := by
  refine Z.F_is_name.ok sc_is_name (fun vs H Q E h => spD_len (n := 1) (by rintro ds ⟨c, rfl, _⟩; rfl) h) (fun cdv A outer s H vs Q E hr h => ⟨_, (pss_one (ps_ret (pe_and (pe_chain op_le op_le pe_int (pe_callB call_len_str (by rfl) Z.z_len boot_len (pa_cons (pv 0) pa_nil)) (pe_glob (by rfl) Z.M_LONGEST_NAME Z.R_LONGEST_NAME)) (pe_one (pe_callB (call_all rfl) (by rfl) Z.z_all boot_all (pa_cons (pe_lc rfl (LcOk.of (Nx := (["text"] : List Str)) (sc := defScope s_is_name) (N' := (["sign"] : List Str)) (nt := 1) (cs := []) rfl rfl (by decide +kernel)) (pi_str (pv 0)) (fun _ _ _ _ => (pg_name (i := 0) (show List.Nodup (["sign"] : List Str) by decide +kernel) rfl (Or.inl rfl))) (fun _ _ _ _ => pifs_nil) (fun _ _ _ _ => (pe_cmpR op_in_str (pv 0) (pe_glob (by rfl) Z.M_LETTERS Z.R_LETTERS) (by with_unfolding_all rfl)))) pa_nil)))))), ?_⟩)
  refine go_spD h (by rw [spD_len (n := 1) (by rintro ds ⟨c, rfl, _⟩; rfl) h]; decide) fun G ds hp rt => ?_
  obtain ⟨l, rfl, hl⟩ := hp
  have rt : RtD K G H Q (.bl (nameB l)) := rt
  have hz : l.length ≤ sizeLine := small hl
  exact go_ret (ev_and (ev_chainI ev_int.b (ev_lenS (ev_var rfl).b hz).b ev_int.b) fun _ => ev_allM (xs := l) (g := fun c => decide (c ∈ lets)) (EvO.l (evo_lcStr l (fun c => .bl (decide (c ∈ lets))) (ev_var rfl).b (gk_name (by decide)) (by decide) (by rw [sizeLine_eq]; omega) fun c hc => ⟨_, tg_name, ev_inS (ev_var rfl).b (ev_str (l := lets) (by decide +kernel) lets_lt).b⟩))) rt
theorem name_true {l : List Nat} (h : NameOk l) : nameB l = true := by
  unfold nameB
  obtain ⟨h1, h2, h3⟩ := h
  rw [decide_eq_true (show (1 : Int) ≤ (l.length : Int) by omega), decide_eq_true (show (l.length : Int) ≤ 12 by omega)]
  simp only [Bool.true_and, List.all_eq_true, decide_eq_true_eq]
  exact h3
def preC (ds : List D) : Prop := ∃ c : Nat, ds = [.str [c]]
def signB (c : Nat) : Bool := (!decide ([c] < [32]) && !decide ([126] < [c])) && !decide ((c : Int) = 37)
def resSign : List D → D
  | [.str [c]] => .bl (signB c)
  | _ => .non
theorem ok_is_sign (Z : Tx K mg ad0) : FnOk P w K mg base CX0 1 ad0.f_is_sign ad0.d_is_sign ["sign"] (SpD K preC resSign) := by
  refine Z.F_is_sign.ok sc_is_sign (fun vs H Q E h => spD_len (n := 1) (by rintro ds ⟨c, rfl⟩; rfl) h) (fun cdv A outer s H vs Q E hr h => ⟨_, (pss_one (ps_ret (pe_and (pe_chain op_le_str op_le_str pe_str (pv 0) pe_str) (pe_one (pe_cmpR op_ne (pe_callB call_ord (by rfl) Z.z_ord boot_ord (pa_cons (pv 0) pa_nil)) (pe_glob (by rfl) Z.M_NO_SIGN Z.R_NO_SIGN) (nomark _)))))), ?_⟩)
  refine go_spD h (by rw [spD_len (n := 1) (by rintro ds ⟨c, rfl⟩; rfl) h]; decide) fun G ds hp rt => ?_
  obtain ⟨c, rfl⟩ := hp
  have rt : RtD K G H Q (.bl (signB c)) := rt
  exact go_ret (ev_and (ev_chainS (ev_str (l := [32]) (by decide +kernel) (by decide)).b (ev_var rfl).b (ev_str (l := [126]) (by decide +kernel) (by decide)).b) fun _ => ev_neI (ev_ord (ev_var rfl).b).b ev_int.b) rt
theorem sign_true : ∀ c ∈ signs, signB c = true := by decide +kernel
def textB (l : List Nat) : Bool := (decide ((1 : Int) ≤ (l.length : Int)) && decide ((l.length : Int) ≤ 40)) && (decide (l = stripL [32].contains l) && l.all fun c => signB c)
def resText : List D → D
  | [.str l] => .bl (textB l)
  | _ => .non
theorem ok_is_text (Z : Tx K mg ad0) : FnOk P w K mg base CX0 2 ad0.f_is_text ad0.d_is_text ["text"] (SpD K preS resText) := by
  have G_is_sign := ok_is_sign (P := P) (w := w) (base := base) Z
  refine Z.F_is_text.ok sc_is_text (fun vs H Q E h => spD_len (n := 1) (by rintro ds ⟨c, rfl, _⟩; rfl) h) (fun cdv A outer s H vs Q E hr h => ⟨_, (pss_cons (ps_if (pt_not (pt_chain op_le op_le pe_int (pe_callB call_len_str (by rfl) Z.z_len boot_len (pa_cons (pv 0) pa_nil)) (pe_glob (by rfl) Z.M_LONGEST_TEXT Z.R_LONGEST_TEXT))) (pss_one (ps_ret pe_bl)) pss_nil)
      (pss_one (ps_ret (pe_and (pe_cmpR op_eq (pv 0) (pe_bm F.plainAttrs_str F.slot_str_strip F.type_str_strip mt_stripC (pv 0) (pa_cons pe_str pa_nil)) (nomark _)) (pe_one (pe_callB (call_all rfl) (by rfl) Z.z_all boot_all (pa_cons (pe_lc rfl (LcOk.of (Nx := (["text"] : List Str)) (sc := defScope s_is_text) (N' := (["sign"] : List Str)) (nt := 1) (cs := []) rfl rfl (by decide +kernel)) (pi_str (pv 0)) (fun _ _ _ _ => (pg_name (i := 0) (show List.Nodup (["sign"] : List Str) by decide +kernel) rfl (Or.inl rfl))) (fun _ _ _ _ => pifs_nil) (fun _ _ _ _ => (pe_call G_is_sign (hr.mono (by decide)) (by rfl) Z.M_is_sign Z.F_is_sign.kp Z.B_is_sign .nil pass0 (pa_cons (pv 0) pa_nil)))) pa_nil))))))), ?_⟩)
  refine go_spD h (by rw [spD_len (n := 1) (by rintro ds ⟨c, rfl, _⟩; rfl) h]; decide) fun G ds hp rt => ?_
  obtain ⟨l, rfl, hl⟩ := hp
  have rt : RtD K G H Q (.bl (textB l)) := rt
  have hz : l.length ≤ sizeLine := small hl
  refine go_seq (go_if (evt_not (evt_test (ev_chainI ev_int.b (ev_lenS (ev_var rfl).b hz).b ev_int.b))) (fun hb => ?_) (fun hb => ?_))
  · have e : textB l = false := by
      unfold textB
      rw [Bool.not_eq_true'] at hb
      rw [hb, Bool.false_and]
    rw [e] at rt
    exact go_ret ev_bl rt
  · refine go_next ?_
    ((try dsimp only); refine nx_go ?_)
    have e : textB l = (decide (l = stripL [32].contains l) && l.all fun c => signB c) := by
      unfold textB
      rw [Bool.not_eq_false'] at hb
      rw [hb, Bool.true_and]
    rw [e] at rt
    exact go_ret (ev_and (ev_eqS (ev_var rfl).b (ev_strip (ev_var rfl).b (ev_str (l := [32]) (by decide +kernel) (by decide)).b hz).b) fun _ => ev_allM (xs := l) (g := fun c => signB c) (EvO.l (evo_lcStr l (fun c => .bl (signB c)) (ev_var rfl).b (gk_name (by decide)) (by decide) (by rw [sizeLine_eq]; omega) fun c hc => ⟨_, tg_name, ev_call (pre := preC) (res := resSign) (evaf_cons (ev_var rfl) evaf_nil) ⟨c, rfl⟩⟩))) rt
theorem text_true {l : List Nat} (h : TextOk l) : textB l = true := by
  unfold textB
  obtain ⟨h1, h2, h3, h4⟩ := h
  rw [decide_eq_true (show (1 : Int) ≤ (l.length : Int) by omega), decide_eq_true (show (l.length : Int) ≤ 40 by omega), decide_eq_true h3]
  simp only [Bool.true_and, List.all_eq_true]
  exact fun c hc => sign_true c (h4 c hc)
def prePf (ds : List D) : Prop := ∃ a f b, ds = [.str a, .str f, .str b]
def resPf : List D → D
  | [.str a, .str f, .str b] => .tup [.str (minL a b), .str f, .str (maxL a b)]
  | _ => .non
theorem ok_pair_fact (Z : Tx K mg ad0) : FnOk P w K mg base CX0 1 ad0.f_pair_fact ad0.d_pair_fact ["one", "field", "other"] (SpD K prePf resPf) := by
  refine Z.F_pair_fact.ok sc_pair_fact (fun vs H Q E h => spD_len (n := 3) (by rintro ds ⟨a, f, b, rfl⟩; rfl) h) (fun cdv A outer s H vs Q E hr h => ⟨_, (pss_one (ps_ret (pe_tup (pa_cons (pe_callB (call_minS rfl) (by rfl) Z.z_min boot_min (pa_cons (pv 0) (pa_cons (pv 2) pa_nil))) (pa_cons (pv 1) (pa_cons (pe_callB (call_maxS rfl) (by rfl) Z.z_max boot_max (pa_cons (pv 0) (pa_cons (pv 2) pa_nil))) pa_nil)))))), ?_⟩)
  refine go_spD h (by rw [spD_len (n := 3) (by rintro ds ⟨a, f, b, rfl⟩; rfl) h]; decide) fun G ds hp rt => ?_
  obtain ⟨a, f, b, rfl⟩ := hp
  exact go_ret (ev_tup (evaf_cons (ev_minS (ev_var rfl).b (ev_var rfl).b) (evaf_cons (ev_var rfl) (evaf_cons (ev_maxS (ev_var rfl).b (ev_var rfl).b) evaf_nil))) (small (by simp))) rt
abbrev Row := List Nat × List Nat × List Nat
def rowL (x : Row) : List Nat := x.1 ++ 32 :: (x.2.1 ++ 32 :: x.2.2)
def RowOk (x : Row) : Prop := NameOk x.1 ∧ ((x.2.1 ∈ flds ∧ TextOk x.2.2) ∨ (x.2.1 ∈ prs ∧ NameOk x.2.2 ∧ x.1 ≠ x.2.2))
def preFo (x : Row) (ds : List D) : Prop := ds = [.str (rowL x)] ∧ RowOk x
def resFo (x : Row) : D := if x.2.1 ∈ prs then .tup [.str (minL x.1 x.2.2), .str x.2.1, .str (maxL x.1 x.2.2)] else .tup [.str x.1, .str x.2.1, .str x.2.2]
theorem fl_not_pr : ∀ f ∈ flds, f ∉ prs := by decide +kernel
theorem pr_not_fl : ∀ f ∈ prs, f ∉ flds := by decide +kernel
theorem fld_plain : ∀ f ∈ flds ++ prs, 32 ∉ f ∧ f.length ≤ 6 := by decide +kernel
theorem lets_no : 32 ∉ lets := by decide +kernel
theorem mem_strs {f : List Nat} {ls : List (List Nat)} : decide (D.str f ∈ ls.map D.str) = decide (f ∈ ls) := by
  congr 1
  rw [List.mem_map]
  apply propext
  exact ⟨fun ⟨g, hg, e⟩ => by injection e with e; rw [← e]; exact hg, fun h => ⟨f, h, rfl⟩⟩
theorem ok_NoRow_init (Z : Tx K mg ad0) : FnOk P w K mg base CX0 1 ad0.f_NoRow_init ad0.d_NoRow_init ["self", "row"] (SpErrI ad0.c_NoRow "row") := by
  refine Z.F_NoRow_init.ok sc_NoRow_init (fun vs H Q E h => by obtain ⟨e, n, rfl, _⟩ := h; rfl) (fun cdv A outer s H vs Q E hr h => ⟨_, (pss_cons (ps_expr (pe_errInit (by rfl) Z.M_FolkError Z.CB_FolkError (pa_cons (pv 0) (pa_cons (pe_fstrI (pv 1)) pa_nil))))
      (pss_one (ps_errSet (pv 0) (pv 1) (by rfl)))), ?_⟩)
  exact errI_body Z.XM_NoRow.cls Z.XS_NoRow_row (by decide +kernel) (by decide +kernel) h
def fof (r : List Nat) : Option D := match splitN 32 2 r with
  | [a, f, t] => if nameB a = true then (if f ∈ flds ∧ textB t = true then some (.tup [.str a, .str f, .str t]) else if f ∈ prs ∧ nameB t = true ∧ a ≠ t then some (resPf [.str a, .str f, .str t]) else none) else none
  | _ => none
def badFo : List D → Prop
  | [.str r] => fof r = none
  | _ => False
def resFoD : List D → D
  | [.str r] => (fof r).getD .non
  | _ => .non
theorem sp3 (r : List Nat) : (∃ a f t, splitN 32 2 r = [a, f, t]) ∨ ((splitN 32 2 r).length < 3 ∧ fof r = none ∧ ∃ a l, splitN 32 2 r = a :: l) := by
  have h := split_len_le 32 2 r
  unfold fof
  match hs : splitN 32 2 r, h with
  | [], _ => exact absurd hs (by unfold splitN; split <;> simp)
  | [a], _ => exact .inr ⟨by simp, rfl, a, [], rfl⟩
  | [a, b], _ => exact .inr ⟨by simp, rfl, a, [b], rfl⟩
  | [a, b, c], _ => exact .inl ⟨a, b, c, rfl⟩
  | a :: b :: c :: d :: l, h => exact absurd h (by simp)
theorem split_lens (z : Nat) : ∀ n l, ∀ x ∈ splitN z n l, x.length ≤ l.length
  | 0, l, x, h => by unfold splitN at h; rw [List.mem_singleton.mp h]; exact Nat.le_refl _
  | n + 1, l, x, h => by
    unfold splitN at h
    split at h
    · rw [List.mem_singleton.mp h]; exact Nat.le_refl _
    · rename_i y b hd
      have hb : b.length < l.length := by
        have := (List.dropWhile_sublist (l := l) (· != z)).length_le
        rw [hd, List.length_cons] at this; omega
      rcases List.mem_cons.mp h with h | h
      · rw [h]; exact (List.takeWhile_sublist (l := l) (· != z)).length_le
      · have := split_lens z n b x h
        omega
theorem ok_fact_of (Z : Tx K mg ad0) : FnOk P w K mg base (CX2 P w) 3 ad0.f_fact_of ad0.d_fact_of ["row"] (SpX K ad0.c_NoRow "row" preS badFo resFoD fun _ => .int 1) := by
  have G_is_name : FnOk P w K mg base CX0 2 ad0.f_is_name ad0.d_is_name ["text"] (SpD K preS resName) := (ok_is_name Z).mono (by decide)
  have G_is_text := ok_is_text (P := P) (w := w) (base := base) Z
  have G_pair_fact : FnOk P w K mg base CX0 2 ad0.f_pair_fact ad0.d_pair_fact ["one", "field", "other"] (SpD K prePf resPf) := (ok_pair_fact Z).mono (by decide)
  have G_NoRow_init := ok_NoRow_init (P := P) (w := w) (base := base) Z
  refine Z.F_fact_of.okX2 sc_fact_of (fun vs H Q E h => spX_len (n := 1) (by rintro ds ⟨c, rfl, _⟩; rfl) h) (fun cdv A outer s H vs Q E hr h => ⟨_, (pss_cons (ps_nox (ps_set (i := 1) sc_fact_of.nd rfl (Or.inl rfl) (pe_bm F.plainAttrs_str F.slot_str_split F.type_str_split mt_split2 (pv 0) (pa_cons pe_str (pa_cons pe_int pa_nil)))))
      (pss_cons (ps_if (PT.nox (PW.pt (pw_or (pt_cmpR op_lt (pe_callB call_len_seq (by rfl) Z.z_len boot_len (pa_cons (pv 1) pa_nil)) pe_int (nomark _)) (pw_or1 (pt_not (pt_val (pe_call G_is_name (hr.mono (by decide)) (by rfl) Z.M_is_name Z.F_is_name.kp Z.B_is_name .nil pass0 (pa_cons (pe_ix (show IxR _ (rIxL K) from ix_list) (pv 1) pe_int (fun _ _ => rfl)) pa_nil)))))))) (pss_one (ps_raiseV (pe_errNew Z.XM_NoRow G_NoRow_init (hr.mono (by decide)) (by rfl) Z.M_NoRow Z.B_NoRow_init pass0 (pa_cons (PE.nox pe_int) pa_nil) (by decide)))) pss_nil)
      (pss_cons (ps_nox (ps_if (PW.pt (pw_and (pt_cmpR (show OpR _ _ (rInD K false) from op_inD hr.units) (pe_ix (show IxR _ (rIxL K) from ix_list) (pv 1) pe_int (fun _ _ => rfl)) (pe_glob (v := .ref ad0.k_FIELDS) (by rfl) Z.M_FIELDS rfl) (by with_unfolding_all rfl)) (pw_and1 (pt_val (pe_call G_is_text (hr.mono (by decide)) (by rfl) Z.M_is_text Z.F_is_text.kp Z.B_is_text .nil pass0 (pa_cons (pe_ix (show IxR _ (rIxL K) from ix_list) (pv 1) pe_int (fun _ _ => rfl)) pa_nil)))))) (pss_one (ps_ret (pe_callTy call_tuple_of (by rfl) Z.z_tuple boot_tuple (pa_cons (pv 1) pa_nil)))) pss_nil))
      (pss_cons (ps_nox (ps_if (PW.pt (pw_and (pt_cmpR (show OpR _ _ (rInD K false) from op_inD hr.units) (pe_ix (show IxR _ (rIxL K) from ix_list) (pv 1) pe_int (fun _ _ => rfl)) (pe_glob (v := .ref ad0.k_PAIR_FIELDS) (by rfl) Z.M_PAIR_FIELDS rfl) (by with_unfolding_all rfl)) (pw_and (pt_val (pe_call G_is_name (hr.mono (by decide)) (by rfl) Z.M_is_name Z.F_is_name.kp Z.B_is_name .nil pass0 (pa_cons (pe_ix (show IxR _ (rIxL K) from ix_list) (pv 1) pe_int (fun _ _ => rfl)) pa_nil))) (pw_and1 (pt_cmpR op_ne (pe_ix (show IxR _ (rIxL K) from ix_list) (pv 1) pe_int (fun _ _ => rfl)) (pe_ix (show IxR _ (rIxL K) from ix_list) (pv 1) pe_int (fun _ _ => rfl)) (nomark _)))))) (pss_one (ps_ret (pe_call G_pair_fact (hr.mono (by decide)) (by rfl) Z.M_pair_fact Z.F_pair_fact.kp Z.B_pair_fact .nil pass0 (pa_cons (pe_ix (show IxR _ (rIxL K) from ix_list) (pv 1) pe_int (fun _ _ => rfl)) (pa_cons (pe_ix (show IxR _ (rIxL K) from ix_list) (pv 1) pe_int (fun _ _ => rfl)) (pa_cons (pe_ix (show IxR _ (rIxL K) from ix_list) (pv 1) pe_int (fun _ _ => rfl)) pa_nil)))))) pss_nil))
      (pss_one (ps_raiseV (pe_errNew Z.XM_NoRow G_NoRow_init (hr.mono (by decide)) (by rfl) Z.M_NoRow Z.B_NoRow_init pass0 (pa_cons (PE.nox pe_int) pa_nil) (by decide)))))))), ?_⟩)
  refine go_spX h (by rw [spX_len (n := 1) (by rintro ds ⟨c, rfl, _⟩; rfl) h]; decide) fun G ds hp rt rx => ?_
  obtain ⟨r, rfl, hrl⟩ := hp
  have rx : fof r = none → RtX2 K G H E ad0.c_NoRow "row" (.int 1) := rx
  have rt : ¬ fof r = none → RtD K G H Q ((fof r).getD .non) := rt
  refine go_seq (go_setO (ds := (splitN 32 (2 : Int).toNat r).map D.str) (evo_split2 (ev_var rfl).b (ev_str (l := [32]) (by decide +kernel) (by decide)).b ev_int.b ⟨by decide, by decide⟩ (small hrl)) fun p => nx_freeze (i := 1) rfl ?_)
  ((try dsimp only); refine nx_go ?_)
  rw [show (2 : Int).toNat = 2 from rfl]
  rcases sp3 r with ⟨c, f, t, hs⟩ | ⟨h1, h2, a, l, h3⟩
  · rw [hs]
    have hlen : ∀ x ∈ splitN 32 2 r, x.length ≤ 1000 := fun x hx => Nat.le_trans (split_lens 32 2 r x hx) hrl
    rw [hs] at hlen
    have lc := hlen c (by simp)
    have lf := hlen f (by simp)
    have lt := hlen t (by simp)
    have hf : fof r = if nameB c = true then (if f ∈ flds ∧ textB t = true then some (.tup [.str c, .str f, .str t]) else if f ∈ prs ∧ nameB t = true ∧ c ≠ t then some (resPf [.str c, .str f, .str t]) else none) else none := by unfold fof; rw [hs]
    refine go_seq (go_if (b := (decide ((([D.str c, D.str f, D.str t].length : Nat) : Int) < 3) || !nameB c)) (evt_or (evt_test (ev_lt (ev_lenL (ev_var rfl).l).b ev_int.b)) fun _ => evt_not (evt_b (ev_call (pre := preS) (res := resName) (evaf_cons (ev_ixL (d := .str c) (ev_var rfl).l ev_int.b rfl) evaf_nil) ⟨c, rfl, lc⟩))) (fun hb => ?_) (fun hb => ?_))
    · have hn : nameB c = false := by simpa using hb
      exact go_raiseI Z.XM_NoRow.cls (evaf_cons ev_int evaf_nil) (by decide) (by decide) (rx (by rw [hf, hn]; rfl))
    · have hn : nameB c = true := by simpa using hb
      rw [hn, if_pos rfl] at hf
      refine go_next ?_
      ((try dsimp only); refine nx_go ?_)
      have inT : ∀ {ls : List (List Nat)} {k : Addr} (h : TupK K k ls) {L0 : Hp} {ss : List Sl} (hs : ss[1]? = some (.d (.lst [.str c, .str f, .str t]))), Ev K G H L0 ss (tOp (rInD K false) (tOp (rIxL K) (tVar 1) (tC (.int 1))) (tC (.ref k))) (.bl (decide (f ∈ ls))) := fun {ls k} h {L0 ss} hs => by
        rw [← mem_strs]
        exact ev_inT (ev_ixL (ev_var hs).l ev_int.b rfl).b (ev_const h).b rfl (D.nbs_map (fun _ => rfl) ls) (by simp [D.dep])
      refine go_seq (go_if (b := (decide (f ∈ flds) && textB t)) (evt_and (evt_test (inT Z.K_FIELDS rfl)) fun _ => evt_b (ev_call (pre := preS) (res := resText) (evaf_cons (ev_ixL (d := .str t) (ev_var rfl).l ev_int.b rfl) evaf_nil) ⟨t, rfl, lt⟩)) (fun hb => ?_) (fun hb => ?_))
      · have h1 : f ∈ flds ∧ textB t = true := by simpa using hb
        rw [if_pos h1] at hf
        rw [hf] at rt
        exact go_ret (ev_tupleOf (ev_var rfl).l (small (by simp))) (rt (by simp))
      · have h1 : ¬ (f ∈ flds ∧ textB t = true) := fun z => by rw [decide_eq_true z.1, z.2] at hb; cases hb
        rw [if_neg h1] at hf
        refine go_next ?_
        ((try dsimp only); refine nx_go ?_)
        refine go_seq (go_if (b := (decide (f ∈ prs) && (nameB t && !decide (c = t)))) (evt_and (evt_test (inT Z.K_PAIR_FIELDS rfl)) fun _ => evt_and (evt_b (ev_call (pre := preS) (res := resName) (evaf_cons (ev_ixL (d := .str t) (ev_var rfl).l ev_int.b rfl) evaf_nil) ⟨t, rfl, lt⟩)) fun _ => evt_test (ev_neS (ev_ixL (d := .str c) (ev_var rfl).l ev_int.b rfl).b (ev_ixL (d := .str t) (ev_var rfl).l ev_int.b rfl).b)) (fun hb => ?_) (fun hb => ?_))
        · have h2 : f ∈ prs ∧ nameB t = true ∧ c ≠ t := by simpa using hb
          rw [if_pos h2] at hf
          rw [hf] at rt
          exact go_ret (ev_call (pre := prePf) (res := resPf) (evaf_cons (ev_ixL (ev_var rfl).l ev_int.b rfl) (evaf_cons (ev_ixL (ev_var rfl).l ev_int.b rfl) (evaf_cons (ev_ixL (ev_var rfl).l ev_int.b rfl) evaf_nil))) ⟨c, f, t, rfl⟩) (rt (by simp))
        · have h2 : ¬ (f ∈ prs ∧ nameB t = true ∧ c ≠ t) := fun z => by rw [decide_eq_true z.1, z.2.1, decide_eq_false z.2.2] at hb; cases hb
          rw [if_neg h2] at hf
          refine go_next ?_
          ((try dsimp only); refine nx_go ?_)
          exact go_raiseI Z.XM_NoRow.cls (evaf_cons ev_int evaf_nil) (by decide) (by decide) (rx hf)
  · refine go_seq (go_if (b := (decide (((((splitN 32 2 r).map D.str).length : Nat) : Int) < 3) || !true)) (evt_or (evt_test (ev_lt (ev_lenL (ev_var rfl).l).b ev_int.b)) fun hb => ?_) (fun _ => go_raiseI Z.XM_NoRow.cls (evaf_cons ev_int evaf_nil) (by decide) (by decide) (rx h2)) (fun hb => ?_))
    · rw [List.length_map] at hb
      rw [decide_eq_true (show (((splitN 32 2 r).length : Nat) : Int) < 3 by omega)] at hb; cases hb
    · rw [List.length_map, decide_eq_true (show (((splitN 32 2 r).length : Nat) : Int) < 3 by omega)] at hb; cases hb
theorem cutL_mem' {m : List Nat} {lo hi : Option Int} {c : Nat} (h : c ∈ cutL m lo hi) : c ∈ m := List.mem_of_mem_drop (List.mem_of_mem_take h)
def Sh (r a f t : List Nat) : Prop := r = a ++ 32 :: (f ++ 32 :: t) ∧ 32 ∉ a ∧ 32 ∉ f ∧ NameOk a ∧ ((f ∈ flds ∧ textB t = true) ∨ (f ∈ prs ∧ NameOk t ∧ a ≠ t))
theorem name_ok {l : List Nat} (h : nameB l = true) : NameOk l := by
  unfold nameB at h
  simp only [Bool.and_eq_true, decide_eq_true_eq, List.all_eq_true] at h
  exact ⟨by omega, by omega, h.2⟩
theorem split_three' {r a f t : List Nat} (h : splitN 32 2 r = [a, f, t]) : r = a ++ 32 :: (f ++ 32 :: t) ∧ 32 ∉ a ∧ 32 ∉ f := by
  unfold splitN at h
  rcases drop_split (z := 32) r with ⟨h1, h2⟩ | ⟨b, h1, h2, h3⟩
  · rw [h1] at h; simp at h
  · rw [h1] at h
    simp only [List.cons.injEq] at h
    obtain ⟨e1, h⟩ := h
    unfold splitN at h
    rcases drop_split (z := 32) b with ⟨g1, g2⟩ | ⟨b2, g1, g2, g3⟩
    · rw [g1] at h; simp at h
    · rw [g1] at h
      simp only [List.cons.injEq] at h
      obtain ⟨e2, h⟩ := h
      unfold splitN at h
      simp only [List.cons.injEq, and_true] at h
      rw [e1] at h2 h3
      rw [e2] at g2 g3
      rw [h] at g2
      exact ⟨by rw [h2]; congr 2, h3, g3⟩
theorem fof_none {r : List Nat} (h : ∀ a f t, ¬ Sh r a f t) : fof r = none := by
  rcases sp3 r with ⟨a, f, t, hs⟩ | ⟨_, h2, _⟩
  · obtain ⟨e, h1, h2⟩ := split_three' hs
    have hf : fof r = if nameB a = true then (if f ∈ flds ∧ textB t = true then some (.tup [.str a, .str f, .str t]) else if f ∈ prs ∧ nameB t = true ∧ a ≠ t then some (resPf [.str a, .str f, .str t]) else none) else none := by unfold fof; rw [hs]
    rw [hf]
    by_cases hn : nameB a = true
    · rw [if_pos hn]
      by_cases c1 : f ∈ flds ∧ textB t = true
      · exact absurd ⟨e, h1, h2, name_ok hn, .inl c1⟩ (h a f t)
      · rw [if_neg c1]
        by_cases c2 : f ∈ prs ∧ nameB t = true ∧ a ≠ t
        · exact absurd ⟨e, h1, h2, name_ok hn, .inr ⟨c2.1, name_ok c2.2.1, c2.2.2⟩⟩ (h a f t)
        · rw [if_neg c2]
    · rw [if_neg hn]
  · exact h2
theorem first_eq {z : Nat} : ∀ {a b u v : List Nat}, a ++ z :: u = b ++ z :: v → z ∉ a → z ∉ b → a = b ∧ u = v
  | [], [], u, v, h, _, _ => ⟨rfl, by simpa using h⟩
  | [], y :: b, u, v, h, _, hb => by simp at h; exact absurd h.1 (fun e => hb (by simp [e]))
  | x :: a, [], u, v, h, ha, _ => by simp at h; exact absurd h.1.symm (fun e => ha (by simp [e]))
  | x :: a, y :: b, u, v, h, ha, hb => by
    simp only [List.cons_append, List.cons.injEq] at h
    obtain ⟨rfl, e⟩ := h
    obtain ⟨rfl, rfl⟩ := first_eq e (fun z => ha (List.mem_cons_of_mem _ z)) (fun z => hb (List.mem_cons_of_mem _ z))
    exact ⟨rfl, rfl⟩
theorem bad_at {x : Nat} (hx : x ≠ 32) : ∀ {u a w v : List Nat}, a ++ 32 :: w = u ++ x :: v → 32 ∉ u → x ∈ a
  | [], [], w, v, h, _ => by simp at h; exact absurd h.1.symm hx
  | [], y :: a, w, v, h, _ => by simp at h; rw [h.1]; exact List.mem_cons_self ..
  | y :: u, [], w, v, h, hu => by simp at h; exact absurd h.1 (fun e => hu (by simp [e]))
  | y :: u, z :: a, w, v, h, hu => by
    simp only [List.cons_append, List.cons.injEq] at h
    exact List.mem_cons_of_mem _ (bad_at hx h.2 fun q => hu (List.mem_cons_of_mem _ q))
theorem long_at : ∀ {u a w v : List Nat}, a ++ 32 :: w = u ++ v → 32 ∉ u → u.length ≤ a.length
  | [], a, w, v, h, _ => Nat.zero_le _
  | y :: u, [], w, v, h, hu => by simp at h; exact absurd h.1 (fun e => hu (by simp [e]))
  | y :: u, z :: a, w, v, h, hu => by
    simp only [List.cons_append, List.cons.injEq] at h
    have := long_at h.2 fun q => hu (List.mem_cons_of_mem _ q)
    simp only [List.length_cons]; omega
def BadN (b : List Nat) : Prop := b = [] ∨ (∃ u x v, b = u ++ x :: v ∧ 32 ∉ u ∧ x ≠ 32 ∧ x ∉ lets) ∨ (13 ≤ b.length ∧ 32 ∉ b)
theorem badN_not {b : List Nat} (h : BadN b) : ¬ NameOk b := by
  rintro ⟨h1, h2, h3⟩
  rcases h with rfl | ⟨u, x, v, rfl, _, _, hl⟩ | ⟨hl, _⟩
  · simp at h1
  · exact hl (h3 x (by simp))
  · omega
theorem none_sign {r u v : List Nat} {x : Nat} (e : r = u ++ x :: v) (hu : 32 ∉ u) (hx : x ≠ 32) (hl : x ∉ lets) : fof r = none := fof_none fun a f t h => by
  obtain ⟨e1, _, _, hn, _⟩ := h
  exact hl (hn.2.2 x (bad_at hx (e1.symm.trans e) hu))
theorem none_blank {r v : List Nat} (e : r = 32 :: v) : fof r = none := fof_none fun a f t h => by
  obtain ⟨e1, h1, _, hn, _⟩ := h
  rw [e] at e1
  cases a with
  | nil => exact absurd hn.1 (by simp)
  | cons y a => simp at e1; exact h1 (by simp [e1.1])
theorem none_nil : fof [] = none := fof_none fun a f t h => by
  obtain ⟨e1, _⟩ := h
  have := congrArg List.length e1
  simp at this
theorem badN_none {b : List Nat} (h : BadN b) (v : List Nat) : fof (b ++ 32 :: v) = none := by
  rcases h with rfl | ⟨u, x, v', rfl, h1, h2, h3⟩ | ⟨h1, h2⟩
  · exact none_blank rfl
  · exact none_sign (u := u) (x := x) (v := v' ++ 32 :: v) (by simp) h1 h2 h3
  · refine fof_none fun a f t h => ?_
    obtain ⟨e1, _, _, hn, _⟩ := h
    have := long_at e1.symm h2
    have := hn.2.1
    omega
theorem lets32 {c : List Nat} (h : NameOk c) : 32 ∉ c := fun z => lets_no (h.2.2 _ z)
theorem none_field {c f v : List Nat} (hc : NameOk c) (hf : 32 ∉ f) (h1 : f ∉ flds) (h2 : f ∉ prs) : fof (c ++ 32 :: (f ++ 32 :: v)) = none := fof_none fun a g t h => by
  obtain ⟨e1, ha, hg, hn, h3⟩ := h
  obtain ⟨rfl, e2⟩ := first_eq e1 (lets32 hc) ha
  obtain ⟨rfl, rfl⟩ := first_eq e2 hf hg
  rcases h3 with h3 | h3
  · exact h1 h3.1
  · exact h2 h3.1
theorem none_one {c : List Nat} (h : 32 ∉ c) : fof c = none := fof_none fun a f t hs => by
  obtain ⟨e1, _⟩ := hs
  exact h (by rw [e1]; simp)
theorem none_two {c f : List Nat} (hc : NameOk c) (h : 32 ∉ f) : fof (c ++ 32 :: f) = none := fof_none fun a g t hs => by
  obtain ⟨e1, ha, _⟩ := hs
  obtain ⟨rfl, e2⟩ := first_eq e1 (lets32 hc) ha
  exact h (by rw [e2]; simp)
theorem none_text {c f t : List Nat} (hc : NameOk c) (hf : 32 ∉ f) (h1 : f ∈ flds → textB t = false) (h2 : f ∈ prs → NameOk t → c = t) : fof (c ++ 32 :: (f ++ 32 :: t)) = none := fof_none fun a g u hs => by
  obtain ⟨e1, ha, hg, hn, h3⟩ := hs
  obtain ⟨rfl, e2⟩ := first_eq e1 (lets32 hc) ha
  obtain ⟨rfl, rfl⟩ := first_eq e2 hf hg
  rcases h3 with h3 | h3
  · have := h1 h3.1; rw [h3.2] at this; cases this
  · exact h3.2.2 (h2 h3.1 h3.2.1)
theorem text_no_head {t : List Nat} : textB (32 :: t) = false := by
  unfold textB
  have : stripL [32].contains (32 :: t) ≠ 32 :: t := fun e => by
    have h := strip_len [32].contains t
    have h2 : stripL [32].contains (32 :: t) = stripL [32].contains t := rfl
    rw [h2] at e
    have := congrArg List.length e
    simp at this; omega
  have h3 : decide (32 :: t = stripL [32].contains (32 :: t)) = false := decide_eq_false fun e => this e.symm
  rw [h3]
  simp
theorem text_no_last {t : List Nat} : textB (t ++ [32]) = false := by
  unfold textB
  have : stripL [32].contains (t ++ [32]) ≠ t ++ [32] := fun e => by
    have h1 := congrArg List.reverse e
    unfold stripL at h1
    rw [List.reverse_reverse, List.reverse_append] at h1
    have h2 := List.head?_dropWhile_not [32].contains (List.dropWhile [32].contains (t ++ [32])).reverse
    rw [h1] at h2
    simp at h2
  have h3 : decide (t ++ [32] = stripL [32].contains (t ++ [32])) = false := decide_eq_false fun e => this e.symm
  rw [h3]
  simp
theorem text_no_long {t : List Nat} (h : 40 < t.length) : textB t = false := by
  unfold textB
  rw [decide_eq_false (show ¬ ((t.length : Int) ≤ 40) by omega)]
  simp
theorem cut_to (c : List Nat) (k : Nat) : cutL c none (some (k : Int)) = c.take k := by
  unfold cutL
  rw [sIx_at _ _ (Int.natCast_nonneg k)]
  show List.take (min (k : Int).toNat c.length - 0) (List.drop 0 c) = _
  rw [List.drop_zero, Nat.sub_zero, Int.toNat_natCast]
  rcases Nat.le_total k c.length with h | h
  · rw [Nat.min_eq_left h]
  · rw [Nat.min_eq_right h, List.take_of_length_le h, List.take_of_length_le (Nat.le_refl _)]
theorem up_lets : ∀ x ∈ lets, up1 x ∉ lets ∧ up1 x ≠ 32 := by decide +kernel
def bads (c : List Nat) : List (List Nat) := [[], (cutL c none (some 1)).map up1 ++ cutL c (some 1) none, cutL c none (some 11) ++ [48], cutL (List.replicate 13 c).flatten none (some 13), (cutL c none (some 5) ++ [45]) ++ cutL c (some 5) (some 11),
  cutL c none (some 11) ++ [46], c.map up1, [35] ++ cutL c none (some 11), cutL c none (some 11) ++ [95]]
theorem cut_len (m : List Nat) (lo hi : Option Int) : (cutL m lo hi).length ≤ m.length := by
  unfold cutL
  rw [List.length_take, List.length_drop]
  omega
theorem bads_ok {c : List Nat} (h : NameOk c) : ∀ b ∈ bads c, BadN b ∧ b.length ≤ 26 := by
  have h32 : 32 ∉ c := lets32 h
  have hcut : ∀ lo hi, 32 ∉ cutL c lo hi := fun lo hi z => h32 (cutL_mem' z)
  have hl := h.2.1
  have cl : ∀ lo hi, (cutL c lo hi).length ≤ 12 := fun lo hi => Nat.le_trans (cut_len c lo hi) hl
  obtain ⟨x, c', rfl⟩ : ∃ x c', c = x :: c' := by
    cases c with
    | nil => exact absurd h.1 (by simp)
    | cons x c' => exact ⟨x, c', rfl⟩
  have hx := up_lets x (h.2.2 x (List.mem_cons_self ..))
  intro b hb
  unfold bads at hb
  simp only [List.mem_cons, List.not_mem_nil, or_false] at hb
  have e1 : cutL (x :: c') none (some 1) = [x] := cut_to (x :: c') 1
  rcases hb with rfl | rfl | rfl | rfl | rfl | rfl | rfl | rfl | rfl
  · exact ⟨.inl rfl, by simp⟩
  · refine ⟨.inr (.inl ⟨[], up1 x, cutL (x :: c') (some 1) none, by rw [e1]; rfl, by simp, hx.2, hx.1⟩), ?_⟩
    have := cl (some 1) none
    rw [e1]; simp; omega
  · have := cl none (some 11)
    exact ⟨.inr (.inl ⟨_, 48, [], rfl, hcut _ _, by decide, by decide +kernel⟩), by simp; omega⟩
  · have ef : (List.replicate 13 (x :: c')).flatten.length = 13 * (x :: c').length := by simp; omega
    have e2 := cut_to (List.replicate 13 (x :: c')).flatten 13
    have e3 : (cutL (List.replicate 13 (x :: c')).flatten none (some 13)).length = 13 := by
      rw [show (some (13 : Int)) = some ((13 : Nat) : Int) from rfl, e2, List.length_take, ef]
      simp only [List.length_cons]; omega
    refine ⟨.inr (.inr ⟨by omega, fun z => ?_⟩), by omega⟩
    have z2 := cutL_mem' z
    obtain ⟨l, hl, hz⟩ := List.mem_flatten.mp z2
    rw [List.eq_of_mem_replicate hl] at hz
    exact h32 hz
  · have a1 := cl none (some 5)
    have a2 := cl (some 5) (some 11)
    exact ⟨.inr (.inl ⟨cutL (x :: c') none (some 5), 45, cutL (x :: c') (some 5) (some 11), by simp, hcut _ _, by decide, by decide +kernel⟩), by simp; omega⟩
  · have := cl none (some 11)
    exact ⟨.inr (.inl ⟨_, 46, [], rfl, hcut _ _, by decide, by decide +kernel⟩), by simp; omega⟩
  · exact ⟨.inr (.inl ⟨[], up1 x, c'.map up1, rfl, by simp, hx.2, hx.1⟩), by rw [List.length_map]; omega⟩
  · have := cl none (some 11)
    exact ⟨.inr (.inl ⟨[], 35, _, rfl, by simp, by decide, by decide +kernel⟩), by simp; omega⟩
  · have := cl none (some 11)
    exact ⟨.inr (.inl ⟨_, 95, [], rfl, hcut _ _, by decide, by decide +kernel⟩), by simp; omega⟩
theorem atS_mod (ws : List (List Nat)) (x : Int) {n : Int} (hn : (ws.length : Int) = n) (h0 : 0 < n) : atI (ws.map D.str) (x % n) = some (.str (ws.getD (x % n).toNat [])) := by
  have h1 := Int.emod_nonneg x (show n ≠ 0 by omega)
  have h2 := Int.emod_lt_of_pos x h0
  have := atI_nat (xs := ws.map D.str) (j := (x % n).toNat) (v := .str (ws.getD (x % n).toNat [])) (by rw [List.getElem?_map, List.getD_eq_getElem?_getD, List.getElem?_eq_getElem (by omega)]; rfl)
  rw [show (((x % n).toNat : Nat) : Int) = x % n by omega] at this
  exact this
theorem getD_mod (ws : List (List Nat)) (x : Int) {n : Int} (hn : (ws.length : Int) = n) (h0 : 0 < n) : ws.getD (x % n).toNat [] ∈ ws := by
  have h1 := Int.emod_nonneg x (show n ≠ 0 by omega)
  have h2 := Int.emod_lt_of_pos x h0
  rw [List.getD_eq_getElem?_getD, List.getElem?_eq_getElem (by omega)]
  exact List.getElem_mem _
theorem ok_law_whole (Z : Tx K mg ad0) : FnOk P w K mg base CX0 1 ad0.f_law_whole ad0.d_law_whole ["_law_found"] (SpD K (fun ds => ∃ c : Int, ds = [.int c]) fun _ => .bl true) := by
  refine Z.F_law_whole.ok sc_law_whole (fun vs H Q E h => spD_len (n := 1) (by rintro ds ⟨c, rfl⟩; rfl) h) (fun cdv A outer s H vs Q E hr h => ⟨_, (pss_one (ps_ret (pe_and (pe_callB call_isi_int_int (by rfl) Z.z_isinstance boot_isinstance (pa_cons (pv 0) (pa_cons (pe_bltn (v := .ty "int") (by rfl) Z.z_int boot_int rfl) pa_nil))) (pe_one (pe_not (pe_callB call_isi_int_bool (by rfl) Z.z_isinstance boot_isinstance (pa_cons (pv 0) (pa_cons (pe_bltn (v := .ty "bool") (by rfl) Z.z_bool boot_bool rfl) pa_nil)))))))), ?_⟩)
  refine go_spD h (by rw [spD_len (n := 1) (by rintro ds ⟨c, rfl⟩; rfl) h]; decide) fun G ds hp rt => ?_
  obtain ⟨c, rfl⟩ := hp
  exact go_ret (ev_and (ev_isI (ev_var rfl).b) fun _ => ev_not (ev_isIB (ev_var rfl).b)) rt
def preI (ds : List D) : Prop := ∃ c : Int, ds = [.int c]
def relN (_ : List D) (r : D) : Prop := ∃ n, r = .str n ∧ NameOk n
theorem ok_law_name (Z : Tx K mg ad0) : FnOk P w K mg base CX0 2 ad0.f_law_name ad0.d_law_name ["_law_cell"] (SpRD K preI relN) := by
  have G_law_stream := ok_law_stream (P := P) (w := w) (base := base) Z
  refine Z.F_law_name.ok sc_law_name (fun vs H Q E h => spRD_len (n := 1) (by rintro ds ⟨c, rfl⟩; rfl) h) (fun cdv A outer s H vs Q E hr h => ⟨_, (pss_cons (ps_set (i := 1) sc_law_name.nd rfl (Or.inr rfl) pe_str)
      (pss_one (ps_ret (pe_bm F.plainAttrs_str F.slot_str_join F.type_str_join mt_join pe_str (pa_cons (pe_lc rfl (LcOk.of (Nx := (["_law_cell", "_law_letters"] : List Str)) (sc := defScope s_law_name) (N' := (["_law_draw", "_law_letters"] : List Str)) (nt := 1) (cs := [1]) rfl rfl (by decide +kernel)) (pi_list (pe_call G_law_stream (hr.mono (by decide)) (by rfl) Z.M_law_stream Z.F_law_stream.kp Z.B_law_stream .nil pass0 (pa_cons (pv 0) (pa_cons (pe_op op_add pe_int (pe_op op_mod (pv 0) pe_int)) pa_nil)))) (fun _ _ _ _ => (pg_name (i := 0) (show List.Nodup (["_law_draw", "_law_letters"] : List Str) by decide +kernel) rfl (Or.inl rfl))) (fun _ _ _ _ => pifs_nil) (fun _ _ _ _ => (pe_ix ix_str (pv 1) (pe_op op_mod (pv 0) pe_int) (fun _ _ => rfl)))) pa_nil))))), ?_⟩)
  refine go_spRD h (by rw [spRD_len (n := 1) (by rintro ds ⟨c, rfl⟩; rfl) h]; decide) fun G ds hp rt => ?_
  obtain ⟨c, rfl⟩ := hp
  refine go_seq (go_set (ev_str (l := lets) (by decide +kernel) lets_lt) ?_)
  ((try dsimp only); refine nx_go ?_)
  have h1 := Int.emod_nonneg c (show (12 : Int) ≠ 0 by decide)
  have h2 := Int.emod_lt_of_pos c (show (0 : Int) < 12 by decide)
  have hok : NameOk ((List.range (1 + c % 12).toNat).map fun i => letter (num c (i + 2))) := by
    refine ⟨by rw [List.length_map, List.length_range]; omega, by rw [List.length_map, List.length_range]; omega, fun x hx => ?_⟩
    obtain ⟨i, _, rfl⟩ := List.mem_map.mp hx
    exact letter_mem _
  refine go_ret (d := .str ((List.range (1 + c % 12).toNat).map fun i => letter (num c (i + 2)))) ?_ (rt _ ⟨_, rfl, hok⟩)
  rw [← glue_one]
  refine ev_joinM (xs := List.range (1 + c % 12).toNat) (z := []) (g := fun i => [letter (num c (i + 2))]) ?a (EvO.l ?b) ?c
  case a => exact (ev_str (by decide +kernel) (by decide)).b
  case b =>
    refine evo_lcM (List.range (1 + c % 12).toNat) (fun i => .int (num c (i + 2))) _ (EvO.l ?b1) (gk_name (by decide)) (by decide) ?b2 ?b3
    case b1 => exact evo_call (pre := preStream) (res := resStream) (evaf_cons (ev_var rfl) (evaf_cons (ev_add ev_int.b (ev_mod (ev_var rfl).b ev_int.b (by decide)).b) evaf_nil)) ⟨c, 1 + c % 12, rfl, by omega, by omega⟩
    case b2 => rw [List.length_range, sizeLine_eq]; omega
    case b3 =>
      intro i hi
      refine ⟨_, tg_name, ?_⟩
      exact ev_ixS (ev_var rfl).b (ev_mod (ev_var rfl).b ev_int.b (by decide)).b (by rw [lets_len, sizeLine_eq]; decide) (at_lets _)
  case c =>
    simp only [List.map_map, List.length_range, List.length_nil, Nat.mul_zero, Nat.add_zero]
    rw [show (List.length ∘ fun i => [letter (num c (i + 2))]) = fun _ => 1 from rfl, List.map_const', List.sum_replicate_nat, List.length_range]; omega
def relT (_ : List D) (r : D) : Prop := ∃ t, r = .str t ∧ TextOk t
theorem ok_law_text (Z : Tx K mg ad0) : FnOk P w K mg base CX0 2 ad0.f_law_text ad0.d_law_text ["_law_cell"] (SpRD K preI relT) := by
  have G_law_stream := ok_law_stream (P := P) (w := w) (base := base) Z
  refine Z.F_law_text.ok sc_law_text (fun vs H Q E h => spRD_len (n := 1) (by rintro ds ⟨c, rfl⟩; rfl) h) (fun cdv A outer s H vs Q E hr h => ⟨_, (pss_cons (ps_set (i := 1) sc_law_text.nd rfl (Or.inr rfl) pe_str)
      (pss_cons (ps_set (i := 2) sc_law_text.nd rfl (Or.inl rfl) (pe_call G_law_stream (hr.mono (by decide)) (by rfl) Z.M_law_stream Z.F_law_stream.kp Z.B_law_stream .nil pass0 (pa_cons (pv 0) (pa_cons pe_int pa_nil))))
      (pss_cons (ps_set (i := 3) sc_law_text.nd rfl (Or.inl rfl) (pe_bm F.plainAttrs_str F.slot_str_strip F.type_str_strip mt_stripC (pe_bm F.plainAttrs_str F.slot_str_join F.type_str_join mt_join pe_str (pa_cons (pe_lc rfl (LcOk.of (Nx := (["_law_cell", "_law_signs", "_law_draws", "_law_text_here"] : List Str)) (sc := defScope s_law_text) (N' := (["_law_draw", "_law_signs"] : List Str)) (nt := 1) (cs := [1]) rfl rfl (by decide +kernel)) (pi_list (pe_slice sl_list (pv 2) po_none (po_some (pe_op op_add pe_int (pe_op op_mod (pv 0) pe_int))))) (fun _ _ _ _ => (pg_name (i := 0) (show List.Nodup (["_law_draw", "_law_signs"] : List Str) by decide +kernel) rfl (Or.inl rfl))) (fun _ _ _ _ => pifs_nil) (fun _ _ _ _ => (pe_ix ix_str (pv 1) (pe_op op_mod (pv 0) pe_int) (fun _ _ => rfl)))) pa_nil)) (pa_cons pe_str pa_nil)))
      (pss_cons (ps_if (pt_cmpR op_eq (pv 3) pe_str (nomark _)) (pss_one (ps_ret pe_str)) pss_nil)
      (pss_one (ps_ret (pv 3))))))), ?_⟩)
  refine go_spRD h (by rw [spRD_len (n := 1) (by rintro ds ⟨c, rfl⟩; rfl) h]; decide) fun G ds hp rt => ?_
  obtain ⟨c, rfl⟩ := hp
  refine go_seq (go_set (ev_str (l := signs) (by decide +kernel) signs_lt) ?_)
  ((try dsimp only); refine nx_go ?_)
  refine go_seq (go_setO (evo_call (pre := preStream) (res := resStream) (evaf_cons (ev_var rfl) (evaf_cons ev_int evaf_nil)) ⟨c, 40, rfl, by decide, by decide⟩) fun pd => nx_freeze (i := 2) rfl ?_)
  ((try dsimp only); refine nx_go ?_)
  have ex3 : resStream [.int c, .int 40] = streamD c 40 := rfl
  rw [ex3]
  have h1 := Int.emod_nonneg c (show (40 : Int) ≠ 0 by decide)
  have h2 := Int.emod_lt_of_pos c (show (0 : Int) < 40 by decide)
  generalize hm : (1 + c % 40).toNat = m
  have ecut : cutD (streamD c 40) none (some (1 + c % 40)) = (List.range m).map fun i => .int (num c (i + 2)) := by
    rw [cutD_to _ (by omega), hm]
    unfold streamD
    rw [← List.map_take, List.take_range, Nat.min_eq_left (by omega)]
  have t0 : ((List.range m).map fun i => signs.getD (num c (i + 2) % 94).toNat 0).length ≤ 40 ∧ ∀ x ∈ ((List.range m).map fun i => signs.getD (num c (i + 2) % 94).toNat 0), x ∈ signs := by
    refine ⟨by rw [List.length_map, List.length_range]; omega, fun x hx => ?_⟩
    obtain ⟨i, _, rfl⟩ := List.mem_map.mp hx
    exact sign_mem _
  refine go_seq ?_
  refine go_set (d := .str (stripL [32].contains ((List.range m).map fun i => signs.getD (num c (i + 2) % 94).toNat 0))) (ev_strip (Ev.b ?_) (ev_str (l := [32]) (by decide +kernel) (by decide)).b (small (by omega))) ?f
  · rw [← glue_one]
    refine ev_joinM (xs := List.range m) (z := []) (g := fun i => [signs.getD (num c (i + 2) % 94).toNat 0]) ?a (EvO.l ?b) ?c
    case a => exact (ev_str (by decide +kernel) (by decide)).b
    case b =>
      refine evo_lcM (List.range m) (fun i => .int (num c (i + 2))) _ (EvO.l ?b1) (gk_name (by decide)) (by decide) ?b2 ?b3
      case b1 =>
        rw [← ecut]
        exact evo_slL (ev_var rfl).l evp_no (evp_part (ev_add ev_int.b (ev_mod (ev_var rfl).b ev_int.b (by decide)).b).b)
      case b2 => rw [List.length_range, sizeLine_eq]; omega
      case b3 =>
        intro i hi
        refine ⟨_, tg_name, ?_⟩
        exact ev_ixS (ev_var rfl).b (ev_mod (ev_var rfl).b ev_int.b (by decide)).b (by rw [signs_len, sizeLine_eq]; decide) (at_signs _)
    case c =>
      simp only [List.map_map, List.length_range, List.length_nil, Nat.mul_zero, Nat.add_zero]
      rw [show (List.length ∘ fun i => [signs.getD (num c (i + 2) % 94).toNat 0]) = fun _ => 1 from rfl, List.map_const', List.sum_replicate_nat, List.length_range]; omega
  case f =>
    ((try dsimp only); refine nx_go ?_)
    generalize ((List.range m).map fun i => signs.getD (num c (i + 2) % 94).toNat 0) = t2 at t0
    obtain ⟨t20, t21⟩ := t0
    have hid := strip_idem [32].contains t2
    have hsl := strip_len [32].contains t2
    have hsm : ∀ x ∈ stripL [32].contains t2, x ∈ signs := fun x hx => t21 x (strip_mem hx)
    generalize stripL [32].contains t2 = t3 at hid hsl hsm
    refine go_seq (go_if (evt_test (ev_eqS (ev_var rfl).b (ev_str (l := []) (by decide +kernel) (by decide)).b)) (fun hb => ?_) (fun hb => ?_))
    · exact go_ret (ev_str (l := [126]) (by decide +kernel) (by decide)) (rt _ ⟨_, rfl, by decide, by decide, by decide +kernel, by decide +kernel⟩)
    · refine go_next ?_
      ((try dsimp only); refine nx_go ?_)
      have hne : t3 ≠ [] := of_decide_eq_false hb
      exact go_ret (ev_var rfl) (rt _ ⟨t3, rfl, List.length_pos_iff.mpr hne, by omega, hid.symm, hsm⟩)
def preBn (ds : List D) : Prop := ∃ (c : List Nat) (k : Int), ds = [.str c, .int k] ∧ NameOk c
def badAt (c : List Nat) (k : Int) : List Nat := (bads c).getD (k % 9).toNat []
def resBn : List D → D
  | [.str c, .int k] => .str (badAt c k)
  | _ => .non
theorem badAt_ok {c : List Nat} (h : NameOk c) (k : Int) : BadN (badAt c k) ∧ (badAt c k).length ≤ 26 := bads_ok h _ (getD_mod (bads c) k (n := 9) rfl (by decide))
theorem ok_law_bad_name (Z : Tx K mg ad0) : FnOk P w K mg base CX0 1 ad0.f_law_bad_name ad0.d_law_bad_name ["_law_name_here", "_law_draw"] (SpD K preBn resBn) := by
  refine Z.F_law_bad_name.ok sc_law_bad_name (fun vs H Q E h => spD_len (n := 2) (by rintro ds ⟨c, k, rfl, _⟩; rfl) h) (fun cdv A outer s H vs Q E hr h => ⟨_, (pss_cons (ps_set (i := 2) sc_law_bad_name.nd rfl (Or.inl rfl) (pe_lst (pa_cons pe_str (pa_cons (pe_op op_add_str (pe_bm0 F.plainAttrs_str F.slot_str_upper F.type_str_upper mt_upper (pe_slice sl_str (pv 0) po_none (po_some pe_int))) (pe_slice sl_str (pv 0) (po_some pe_int) po_none)) (pa_cons (pe_op op_add_str (pe_slice sl_str (pv 0) po_none (po_some pe_int)) pe_str) (pa_cons (pe_slice sl_str (pe_op (show OpR _ _ rMulS from op_mulS) (pv 0) pe_int) po_none (po_some pe_int)) (pa_cons (pe_op op_add_str (pe_op op_add_str (pe_slice sl_str (pv 0) po_none (po_some pe_int)) pe_str) (pe_slice sl_str (pv 0) (po_some pe_int) (po_some pe_int))) pa_nil)))))))
      (pss_one (ps_ret (pe_ix (show IxR _ (rIxL K) from ix_list) (pe_op (show OpR _ _ (rCatD K) from op_catD) (pv 2) (pe_lst (pa_cons (pe_op op_add_str (pe_slice sl_str (pv 0) po_none (po_some pe_int)) pe_str) (pa_cons (pe_bm0 F.plainAttrs_str F.slot_str_upper F.type_str_upper mt_upper (pv 0)) (pa_cons (pe_op op_add_str pe_str (pe_slice sl_str (pv 0) po_none (po_some pe_int))) (pa_cons (pe_op op_add_str (pe_slice sl_str (pv 0) po_none (po_some pe_int)) pe_str) pa_nil)))))) (pe_op op_mod (pv 1) pe_int) (fun _ _ => rfl))))), ?_⟩)
  refine go_spD h (by rw [spD_len (n := 2) (by rintro ds ⟨c, k, rfl, _⟩; rfl) h]; decide) fun G ds hp rt => ?_
  obtain ⟨c, k, rfl, hc⟩ := hp
  have hl := hc.2.1
  have hz : c.length ≤ sizeLine := small (by omega)
  have cl : ∀ lo hi, (cutL c lo hi).length ≤ 12 := fun lo hi => Nat.le_trans (cut_len c lo hi) hl
  have lf : (List.replicate 13 c).flatten.length ≤ 1000 := by rw [List.length_flatten, List.map_replicate, List.sum_replicate_nat]; omega
  have cs : ∀ {L0 : Hp} {ss : List Sl} {lo hi : Option Int} {tl th : TO}, ss[0]? = some (.d (.str c)) → EvP K G H L0 ss tl lo → EvP K G H L0 ss th hi → Ev K G H L0 ss (tSl rSlS (tVar 0) tl th) (.str (cutL c lo hi)) := fun hs a b => ev_slS (ev_var hs).b a b hz
  have b1 := cl none (some 1)
  have b2 := cl (some 1) none
  have b3 := cl none (some 11)
  have b4 := cl none (some 5)
  have b5 := cl (some 5) (some 11)
  refine go_seq (go_setO (ds := ((bads c).take 5).map D.str) (evo_lst (evaf_cons (ev_str (l := []) (by decide +kernel) (by decide)) (evaf_cons (ev_catS (Ev.b (ev_upperL (Ev.b (cs rfl evp_no (evp_part ev_int.b))) (by omega))) (Ev.b (cs rfl (evp_part ev_int.b) evp_no)) (small (by rw [List.length_map]; omega))) (evaf_cons (ev_catS (Ev.b (cs rfl evp_no (evp_part ev_int.b))) (ev_str (l := [48]) (by decide +kernel) (by decide)).b (small (by simp only [List.length_singleton]; omega))) (evaf_cons (ev_slS (Ev.b (ev_mulS (n := 13) (ev_var rfl).b ev_int.b (by omega) (by decide))) evp_no (evp_part ev_int.b) (small lf)) (evaf_cons (ev_catS (Ev.b (ev_catS (Ev.b (cs rfl evp_no (evp_part ev_int.b))) (ev_str (l := [45]) (by decide +kernel) (by decide)).b (small (by simp only [List.length_singleton]; omega)))) (Ev.b (cs rfl (evp_part ev_int.b) (evp_part ev_int.b))) (small (by simp only [List.length_singleton, List.length_append]; omega))) evaf_nil))))) (small (by show 5 ≤ 1000; decide))) fun p => nx_freeze (i := 2) rfl ?_)
  ((try dsimp only); refine nx_go ?_)
  have hat := atS_mod (bads c) k (n := 9) rfl (by decide)
  refine go_ret (d := .str ((bads c).getD (k % 9).toNat [])) ?_ rt
  exact ev_ixL (ds := ((bads c).take 5).map D.str ++ ((bads c).drop 5).map D.str) (EvO.l (evo_cat (ev_var rfl).l (EvO.l (evo_lst (evaf_cons (ev_catS (Ev.b (cs rfl evp_no (evp_part ev_int.b))) (ev_str (l := [46]) (by decide +kernel) (by decide)).b (small (by simp only [List.length_singleton]; omega))) (evaf_cons (ev_upperL (ev_var rfl).b (by omega)) (evaf_cons (ev_catS (ev_str (l := [35]) (by decide +kernel) (by decide)).b (Ev.b (cs rfl evp_no (evp_part ev_int.b))) (small (by simp only [List.length_singleton]; omega))) (evaf_cons (ev_catS (Ev.b (cs rfl evp_no (evp_part ev_int.b))) (ev_str (l := [95]) (by decide +kernel) (by decide)).b (small (by simp only [List.length_singleton]; omega))) evaf_nil)))) (small (by show 4 ≤ 1000; decide)))) (small (by show 9 ≤ 1000; decide)))) (ev_mod (ev_var rfl).b ev_int.b (by decide)).b hat
theorem fl_word : ∀ f ∈ flds ++ prs, 32 ∉ f := by decide +kernel
def preSp (ds : List D) : Prop := ∃ (c f t : List Nat) (y k : Int), ds = [.str c, .str f, .str t, .int y, .int k] ∧ RowOk (c, f, t)
def relSp (_ : List D) (r : D) : Prop := ∃ b, r = .str b ∧ fof b = none ∧ b.length ≤ 200
def sp0 (c f t : List Nat) : List (List Nat) := [[], [32], [32, 32, 32], [35, 32] ++ c ++ [32] ++ f ++ [32] ++ t, [35]]
def sp2 : List (List Nat) := [[110, 97, 109, 101, 115], [78, 97, 109, 101], [110, 111, 116, 101], [115, 97, 109], [97, 112, 97, 114, 116, 115], [78, 65, 77, 69], [100, 97, 121, 115], [105, 115]]
theorem sp2_ok : ∀ f ∈ sp2, 32 ∉ f ∧ f ∉ flds ∧ f ∉ prs ∧ f.length ≤ 6 := by decide +kernel
def sp3L (c f t : List Nat) : List (List Nat) := [c, c ++ [32], c ++ [32] ++ f, c ++ [32] ++ f ++ [32], c ++ [46] ++ t]
theorem text_nil : textB [] = false := by decide +kernel
theorem ok_law_spoiled (Z : Tx K mg ad0) : FnOk P w K mg base CX0 2 ad0.f_law_spoiled ad0.d_law_spoiled ["_law_card", "_law_field", "_law_text_here", "_law_way", "_law_draw"] (SpRD K preSp relSp) := by
  have G_law_bad_name := ok_law_bad_name (P := P) (w := w) (base := base) Z
  refine Z.F_law_spoiled.ok sc_law_spoiled (fun vs H Q E h => spRD_len (n := 5) (by rintro ds ⟨c, f, t, y, k, rfl, _⟩; rfl) h) (fun cdv A outer s H vs Q E hr h => ⟨_, (pss_cons (ps_if (pt_cmpR op_eq (pv 3) pe_int (nomark _)) (pss_one (ps_ret (pe_ix (show IxR _ (rIxL K) from ix_list) (pe_lst (pa_cons pe_str (pa_cons pe_str (pa_cons pe_str (pa_cons (pe_op op_add_str (pe_op op_add_str (pe_op op_add_str (pe_op op_add_str (pe_op op_add_str pe_str (pv 0)) pe_str) (pv 1)) pe_str) (pv 2)) (pa_cons pe_str pa_nil)))))) (pe_op op_mod (pv 4) pe_int) (fun _ _ => rfl)))) pss_nil)
      (pss_cons (ps_if (pt_cmpR op_eq (pv 3) pe_int (nomark _)) (pss_one (ps_ret (pe_op op_add_str (pe_op op_add_str (pe_op op_add_str (pe_op op_add_str (pe_call G_law_bad_name (hr.mono (by decide)) (by rfl) Z.M_law_bad_name Z.F_law_bad_name.kp Z.B_law_bad_name .nil pass0 (pa_cons (pv 0) (pa_cons (pv 4) pa_nil))) pe_str) (pv 1)) pe_str) (pv 2)))) pss_nil)
      (pss_cons (ps_if (pt_cmpR op_eq (pv 3) pe_int (nomark _)) (pss_one (ps_ret (pe_op op_add_str (pe_op op_add_str (pe_op op_add_str (pe_op op_add_str (pv 0) pe_str) (pe_ix (show IxR _ (rIxL K) from ix_list) (pe_lst (pa_cons pe_str (pa_cons pe_str (pa_cons pe_str (pa_cons pe_str (pa_cons pe_str (pa_cons pe_str (pa_cons pe_str (pa_cons pe_str pa_nil))))))))) (pe_op op_mod (pv 4) pe_int) (fun _ _ => rfl))) pe_str) (pv 2)))) pss_nil)
      (pss_cons (ps_if (pt_cmpR op_eq (pv 3) pe_int (nomark _)) (pss_one (ps_ret (pe_ix (show IxR _ (rIxL K) from ix_list) (pe_lst (pa_cons (pv 0) (pa_cons (pe_op op_add_str (pv 0) pe_str) (pa_cons (pe_op op_add_str (pe_op op_add_str (pv 0) pe_str) (pv 1)) (pa_cons (pe_op op_add_str (pe_op op_add_str (pe_op op_add_str (pv 0) pe_str) (pv 1)) pe_str) (pa_cons (pe_op op_add_str (pe_op op_add_str (pv 0) pe_str) (pv 2)) pa_nil)))))) (pe_op op_mod (pv 4) pe_int) (fun _ _ => rfl)))) pss_nil)
      (pss_cons (ps_if (pt_cmpR op_eq (pv 3) pe_int (nomark _)) (pss_one (ps_ret (pe_op op_add_str (pe_op op_add_str (pe_op op_add_str (pe_op op_add_str (pv 0) pe_str) (pv 1)) pe_str) (pv 2)))) pss_nil)
      (pss_cons (ps_if (pt_cmpR op_eq (pv 3) pe_int (nomark _)) (pss_one (ps_ret (pe_op op_add_str (pe_op op_add_str (pe_op op_add_str (pe_op op_add_str (pe_op op_add_str (pv 0) pe_str) (pv 1)) pe_str) (pv 2)) pe_str))) pss_nil)
      (pss_cons (ps_if (pt_cmpR op_eq (pv 3) pe_int (nomark _)) (pss_one (ps_ret (pe_op op_add_str (pe_op op_add_str (pe_op op_add_str (pe_op op_add_str (pv 0) pe_str) (pv 1)) pe_str) (pe_slice sl_str (pe_op op_add_str (pv 2) (pe_op (show OpR _ _ rMulS from op_mulS) pe_str pe_int)) po_none (po_some pe_int))))) pss_nil)
      (pss_cons (ps_if (pt_cmpR op_eq (pv 3) pe_int (nomark _)) (pss_one (ps_ret (pe_op op_add_str (pe_op op_add_str (pe_op op_add_str (pe_op op_add_str (pv 0) pe_str) (pe_ix (show IxR _ (rIxL K) from ix_list) (pe_lst (pa_cons pe_str (pa_cons pe_str pa_nil))) (pe_op op_mod (pv 4) pe_int) (fun _ _ => rfl))) pe_str) (pv 0)))) pss_nil)
      (pss_cons (ps_if (pt_cmpR op_eq (pv 3) pe_int (nomark _)) (pss_one (ps_ret (pe_op op_add_str (pe_op op_add_str (pe_op op_add_str (pe_op op_add_str (pv 0) pe_str) (pe_ix (show IxR _ (rIxL K) from ix_list) (pe_lst (pa_cons pe_str (pa_cons pe_str pa_nil))) (pe_op op_mod (pv 4) pe_int) (fun _ _ => rfl))) pe_str) (pe_call G_law_bad_name (hr.mono (by decide)) (by rfl) Z.M_law_bad_name Z.F_law_bad_name.kp Z.B_law_bad_name .nil pass0 (pa_cons (pv 0) (pa_cons (pe_op op_fdiv (pv 4) pe_int) pa_nil)))))) pss_nil)
      (pss_cons (ps_if (pt_cmpR op_eq (pv 3) pe_int (nomark _)) (pss_one (ps_ret (pe_op op_add_str (pe_op op_add_str (pe_op op_add_str (pe_op op_add_str (pe_op op_add_str pe_str (pv 0)) pe_str) (pv 1)) pe_str) (pv 2)))) pss_nil)
      (pss_one (ps_ret (pe_op op_add_str (pe_op op_add_str (pe_op op_add_str (pe_op op_add_str (pv 0) pe_str) (pv 1)) pe_str) (pv 2)))))))))))))), ?_⟩)
  refine go_spRD h (by rw [spRD_len (n := 5) (by rintro ds ⟨c, f, t, y, k, rfl, _⟩; rfl) h]; decide) fun G ds hp rt => ?_
  obtain ⟨c, f, t, y, k, rfl, hrow⟩ := hp
  have hc : NameOk c := hrow.1
  have hft := hrow.2
  dsimp only at hft
  have hfm : f ∈ flds ++ prs := by
    rcases hft with h | h
    · exact List.mem_append_left _ h.1
    · exact List.mem_append_right _ h.1
  have hf32 := fl_word f hfm
  have hfl : f.length ≤ 6 := (fld_plain f hfm).2
  have hcl := hc.2.1
  have hc32 := lets32 hc
  have htl : t.length ≤ 40 := by
    rcases hft with h | h
    · exact h.2.2.1
    · have := h.2.1.2.1; omega
  have tell : ∀ {L0 : Hp} {D0 : Ends} {te : TE} {b : List Nat} {ss : List Sl}, D0.rt = Q → Ev K G H L0 ss te (.str b) → fof b = none → b.length ≤ 200 → Go K G H L0 D0 ss (tRet te) := fun {L0 D0 te b ss} hQ he h1 h2 => go_ret he (by rw [hQ]; exact rt _ ⟨b, rfl, h1, h2⟩)
  have bl : ∀ {L0 : Hp} {ss : List Sl}, Ev K G H L0 ss (tC (.str " ")) (.str [32]) := ev_str (by decide +kernel) (by decide)
  have cat : ∀ {L0 : Hp} {ss : List Sl} {ta tb : TE} {l m : List Nat}, Ev K G H L0 ss ta (.str l) → Ev K G H L0 ss tb (.str m) → l.length + m.length ≤ 1000 → Ev K G H L0 ss (tOp (fun x y H Q => ∃ i j, x = .str i ∧ y = .str j ∧ i.length + j.length ≤ sizeLine ∧ Q (.str (i ++ j)) H) ta tb) (.str (l ++ m)) := fun a b h => ev_catS a.b b.b (small (by omega))
  have nxif : ∀ {L0 : Hp} {D0 : Ends} {i : Int} {t1 t2 : TS}, (y = i → Go K G H L0 { D0 with nx := t2 D0 } [.d (.str c), .d (.str f), .d (.str t), .d (.int y), .d (.int k)] t1) → (y ≠ i → Go K G H L0 D0 [.d (.str c), .d (.str f), .d (.str t), .d (.int y), .d (.int k)] t2) →
      Go K G H L0 D0 [.d (.str c), .d (.str f), .d (.str t), .d (.int y), .d (.int k)] (tSeq (tIfS (tTest (tOp rEq (tVar 3) (tC (.int i)))) t1 tNext) t2) := fun {L0 D0 i t1 t2} h1 h2 => by
    refine go_seq (go_if (evt_test (ev_eqI (ev_var rfl).b ev_int.b)) (fun hb => h1 (of_decide_eq_true hb)) (fun hb => ?_))
    refine go_next ?_
    ((try dsimp only); refine nx_go ?_)
    exact h2 (of_decide_eq_false hb)
  refine nxif (fun _ => ?_) (fun _ => ?_)
  · have hat := atS_mod (sp0 c f t) k (n := 5) rfl (by decide)
    have hm := getD_mod (sp0 c f t) k (n := 5) rfl (by decide)
    have hok : ∀ b ∈ sp0 c f t, fof b = none ∧ b.length ≤ 200 := by
      intro b hb
      unfold sp0 at hb
      simp only [List.mem_cons, List.not_mem_nil, or_false] at hb
      rcases hb with rfl | rfl | rfl | rfl | rfl
      · exact ⟨none_nil, by decide⟩
      · exact ⟨none_blank rfl, by decide⟩
      · exact ⟨none_blank rfl, by decide⟩
      · exact ⟨none_sign (u := []) (x := 35) (v := [32] ++ c ++ [32] ++ f ++ [32] ++ t) (by simp) (by simp) (by decide) (by decide +kernel), by simp; omega⟩
      · exact ⟨none_sign (u := []) (x := 35) (v := []) rfl (by simp) (by decide) (by decide +kernel), by decide⟩
    refine tell rfl (ev_ixL (ds := (sp0 c f t).map D.str) (EvO.l (evo_lst (evaf_cons (ev_str (l := []) (by decide +kernel) (by decide)) (evaf_cons bl (evaf_cons (ev_str (l := [32, 32, 32]) (by decide +kernel) (by decide)) (evaf_cons (cat (cat (cat (cat (cat (ev_str (l := [35, 32]) (by decide +kernel) (by decide)) (ev_var rfl) (by simp; omega)) bl (by simp; omega)) (ev_var rfl) (by simp; omega)) bl (by simp; omega)) (ev_var rfl) (by simp; omega)) (evaf_cons (ev_str (l := [35]) (by decide +kernel) (by decide)) evaf_nil))))) (small (by show 5 ≤ 1000; decide)))) (ev_mod (ev_var rfl).b ev_int.b (by decide)).b hat) (hok _ hm).1 (hok _ hm).2
  have two : ∀ {L0 : Hp} {ss : List Sl} {ti : TE} {q : Int}, Ev K G H L0 ss ti (.int q) → Ev K G H L0 ss (tOp (rIxL K) (tLst (tCons (tC (.str "same")) (tCons (tC (.str "apart")) tNil))) (tOp (rI (fun _ j => 0 < j) fun i j => .int (i % j)) ti (tC (.int 2)))) (.str (prs.getD (q % 2).toNat [])) := fun {L0 ss ti q} hq =>
    ev_ixL (ds := prs.map D.str) (EvO.l (evo_lst (evaf_cons (ev_str (by decide +kernel) (by decide)) (evaf_cons (ev_str (by decide +kernel) (by decide)) evaf_nil)) (small (by decide)))) (ev_mod (j := 2) hq.b ev_int.b (by decide)).b (atS_mod prs q (n := 2) rfl (by decide))
  have twoM : ∀ q : Int, prs.getD (q % 2).toNat [] ∈ prs := fun q => getD_mod prs q (n := 2) rfl (by decide)
  have prF : ∀ g ∈ prs, 32 ∉ g ∧ g ∉ flds ∧ g.length ≤ 6 := by decide +kernel
  have hb0 := badAt_ok hc k
  have hb2 := badAt_ok hc (k / 2)
  refine nxif (fun _ => ?_) (fun _ => ?_)
  · refine tell (b := badAt c k ++ [32] ++ f ++ [32] ++ t) rfl (cat (cat (cat (cat (ev_call (pre := preBn) (res := resBn) (evaf_cons (ev_var rfl) (evaf_cons (ev_var rfl) evaf_nil)) ⟨c, k, rfl, hc⟩) bl (by simp; omega)) (ev_var rfl) (by simp; omega)) bl (by simp; omega)) (ev_var rfl) (by simp; omega)) ?_ (by simp; omega)
    have := badN_none hb0.1 (f ++ [32] ++ t)
    simpa using this
  refine nxif (fun _ => ?_) (fun _ => ?_)
  · have hm := sp2_ok _ (getD_mod sp2 k (n := 8) rfl (by decide))
    have hat := atS_mod sp2 k (n := 8) rfl (by decide)
    generalize sp2.getD (k % 8).toNat [] = g at hm hat
    have hm4 := hm.2.2.2
    refine tell (b := c ++ [32] ++ g ++ [32] ++ t) rfl (cat (cat (cat (cat (ev_var rfl) bl (by simp; omega)) (ev_ixL (ds := sp2.map D.str) (EvO.l (evo_lst (evaf_cons (ev_str (by decide +kernel) (by decide)) (evaf_cons (ev_str (by decide +kernel) (by decide)) (evaf_cons (ev_str (by decide +kernel) (by decide)) (evaf_cons (ev_str (by decide +kernel) (by decide)) (evaf_cons (ev_str (by decide +kernel) (by decide)) (evaf_cons (ev_str (by decide +kernel) (by decide)) (evaf_cons (ev_str (by decide +kernel) (by decide)) (evaf_cons (ev_str (by decide +kernel) (by decide)) evaf_nil)))))))) (small (by decide)))) (ev_mod (ev_var rfl).b ev_int.b (by decide)).b hat) (by simp; omega)) bl (by simp; omega)) (ev_var rfl) (by simp; omega)) ?_ (by simp; omega)
    have := none_field (v := t) hc hm.1 hm.2.1 hm.2.2.1
    simpa using this
  refine nxif (fun _ => ?_) (fun _ => ?_)
  · have hat := atS_mod (sp3L c f t) k (n := 5) rfl (by decide)
    have hm := getD_mod (sp3L c f t) k (n := 5) rfl (by decide)
    have hok : ∀ b ∈ sp3L c f t, fof b = none ∧ b.length ≤ 200 := by
      intro b hb
      unfold sp3L at hb
      simp only [List.mem_cons, List.not_mem_nil, or_false] at hb
      rcases hb with rfl | rfl | rfl | rfl | rfl
      · exact ⟨none_one hc32, by omega⟩
      · exact ⟨none_two hc (by simp), by simp; omega⟩
      · have := none_two hc hf32
        exact ⟨by simpa using this, by simp; omega⟩
      · have := none_text (t := []) hc hf32 (fun _ => text_nil) (fun _ h => absurd h.1 (by simp))
        exact ⟨by simpa using this, by simp; omega⟩
      · exact ⟨none_sign (u := c) (x := 46) (v := t) (by simp) hc32 (by decide) (by decide +kernel), by simp; omega⟩
    exact tell rfl (ev_ixL (ds := (sp3L c f t).map D.str) (EvO.l (evo_lst (evaf_cons (ev_var rfl) (evaf_cons (cat (ev_var rfl) bl (by simp; omega)) (evaf_cons (cat (cat (ev_var rfl) bl (by simp; omega)) (ev_var rfl) (by simp; omega)) (evaf_cons (cat (cat (cat (ev_var rfl) bl (by simp; omega)) (ev_var rfl) (by simp; omega)) bl (by simp; omega)) (evaf_cons (cat (cat (ev_var rfl) (ev_str (l := [46]) (by decide +kernel) (by decide)) (by simp; omega)) (ev_var rfl) (by simp; omega)) evaf_nil))))) (small (by show 5 ≤ 1000; decide)))) (ev_mod (ev_var rfl).b ev_int.b (by decide)).b hat) (hok _ hm).1 (hok _ hm).2
  refine nxif (fun _ => ?_) (fun _ => ?_)
  · refine tell (b := c ++ [32] ++ f ++ [32, 32] ++ t) rfl (cat (cat (cat (cat (ev_var rfl) bl (by simp; omega)) (ev_var rfl) (by simp; omega)) (ev_str (l := [32, 32]) (by decide +kernel) (by decide)) (by simp; omega)) (ev_var rfl) (by simp; omega)) ?_ (by simp; omega)
    have := none_text (t := 32 :: t) hc hf32 (fun _ => text_no_head) (fun _ h => absurd (h.2.2 32 (by simp)) lets_no)
    simpa using this
  refine nxif (fun _ => ?_) (fun _ => ?_)
  · refine tell (b := c ++ [32] ++ f ++ [32] ++ t ++ [32]) rfl (cat (cat (cat (cat (cat (ev_var rfl) bl (by simp; omega)) (ev_var rfl) (by simp; omega)) bl (by simp; omega)) (ev_var rfl) (by simp; omega)) bl (by simp; omega)) ?_ (by simp; omega)
    have := none_text (t := t ++ [32]) hc hf32 (fun _ => text_no_last) (fun _ h => absurd (h.2.2 32 (by simp)) lets_no)
    simpa using this
  refine nxif (fun _ => ?_) (fun _ => ?_)
  · have lt : (cutL (t ++ (List.replicate 41 [126]).flatten) none (some 41)).length = 41 := by
      rw [show (some (41 : Int)) = some ((41 : Nat) : Int) from rfl, cut_to, List.length_take, List.length_append, show (List.replicate 41 [126]).flatten.length = 41 from by decide +kernel]; omega
    refine tell (b := c ++ [32] ++ f ++ [32] ++ cutL (t ++ (List.replicate 41 [126]).flatten) none (some 41)) rfl (cat (cat (cat (cat (ev_var rfl) bl (by simp; omega)) (ev_var rfl) (by simp; omega)) bl (by simp; omega)) (ev_slS (Ev.b (cat (ev_var rfl) (ev_mulS (n := 41) (ev_str (l := [126]) (by decide +kernel) (by decide)).b ev_int.b (by decide) (by decide)) (by rw [show (List.replicate 41 [126]).flatten.length = 41 from by decide +kernel]; omega))) evp_no (evp_part ev_int.b) (small (by rw [List.length_append, show (List.replicate 41 [126]).flatten.length = 41 from by decide +kernel]; omega))) (by simp only [List.length_append, List.length_singleton, lt]; omega)) ?_ (by simp only [List.length_append, List.length_singleton, lt]; omega)
    have := none_text (t := cutL (t ++ (List.replicate 41 [126]).flatten) none (some 41)) hc hf32 (fun _ => text_no_long (by omega)) (fun _ h => absurd h.2.1 (by omega))
    simpa using this
  refine nxif (fun _ => ?_) (fun _ => ?_)
  · have h2 := prF _ (twoM k)
    have h22 := h2.2.2
    refine tell (b := c ++ [32] ++ prs.getD (k % 2).toNat [] ++ [32] ++ c) rfl (cat (cat (cat (cat (ev_var rfl) bl (by simp; omega)) (two (ev_var rfl)) (by simp only [List.length_append, List.length_singleton]; omega)) bl (by simp only [List.length_append, List.length_singleton]; omega)) (ev_var rfl) (by simp only [List.length_append, List.length_singleton]; omega)) ?_ (by simp only [List.length_append, List.length_singleton]; omega)
    have := none_text (t := c) hc h2.1 (fun z => absurd z h2.2.1) (fun _ _ => rfl)
    simpa using this
  refine nxif (fun _ => ?_) (fun _ => ?_)
  · have h2 := prF _ (twoM k)
    have h22 := h2.2.2
    have h23 := hb2.2
    refine tell (b := c ++ [32] ++ prs.getD (k % 2).toNat [] ++ [32] ++ badAt c (k / 2)) rfl (cat (cat (cat (cat (ev_var rfl) bl (by simp; omega)) (two (ev_var rfl)) (by simp only [List.length_append, List.length_singleton]; omega)) bl (by simp only [List.length_append, List.length_singleton]; omega)) (ev_call (pre := preBn) (res := resBn) (evaf_cons (ev_var rfl) (evaf_cons (ev_fdiv (ev_var rfl).b ev_int.b ⟨by decide, by decide⟩) evaf_nil)) ⟨c, k / 2, rfl, hc⟩) (by simp only [List.length_append, List.length_singleton]; omega)) ?_ (by simp only [List.length_append, List.length_singleton]; omega)
    have := none_text (t := badAt c (k / 2)) hc h2.1 (fun z => absurd z h2.2.1) (fun _ h => absurd h (badN_not hb2.1))
    simpa using this
  refine nxif (fun _ => ?_) (fun _ => ?_)
  · exact tell (b := [32] ++ c ++ [32] ++ f ++ [32] ++ t) rfl (cat (cat (cat (cat (cat bl (ev_var rfl) (by simp; omega)) bl (by simp; omega)) (ev_var rfl) (by simp; omega)) bl (by simp; omega)) (ev_var rfl) (by simp; omega)) (none_blank (by simp; rfl)) (by simp; omega)
  · refine tell (b := c ++ [32, 32] ++ f ++ [32] ++ t) rfl (cat (cat (cat (cat (ev_var rfl) (ev_str (l := [32, 32]) (by decide +kernel) (by decide)) (by simp; omega)) (ev_var rfl) (by simp; omega)) bl (by simp; omega)) (ev_var rfl) (by simp; omega)) ?_ (by simp; omega)
    have := none_field (f := []) (v := f ++ [32] ++ t) hc (by simp) (by decide) (by decide)
    simpa using this
theorem ok_law_refused (Z : Tx K mg ad0) : FnOk P w K mg base CX0 4 ad0.f_law_refused ad0.d_law_refused ["_law_row"] (SpD K (fun ds => preS ds ∧ badFo ds) fun _ => .bl true) := by
  have G_fact_of := ok_fact_of (P := P) (w := w) (base := base) Z
  have G_law_whole : FnOk P w K mg base CX0 3 ad0.f_law_whole ad0.d_law_whole ["_law_found"] (SpD K (fun ds => ∃ c : Int, ds = [.int c]) fun _ => .bl true) := (ok_law_whole Z).mono (by decide)
  refine Z.F_law_refused.ok sc_law_refused (fun vs H Q E h => spD_len (n := 1) (by rintro ds ⟨⟨r, rfl, _⟩, _⟩; rfl) h) (fun cdv A outer s H vs Q E hr h => ⟨_, (pss_cons (ps_set (i := 1) sc_law_refused.nd rfl (Or.inl rfl) pe_non)
      (pss_cons (ps_tryAs2 G_fact_of (hr.mono (by decide)) (by rfl) Z.M_fact_of Z.F_fact_of.kp Z.B_fact_of (pa_cons (pv 0) pa_nil) (by rfl) Z.M_FolkError sc_law_refused.nd (i := 2) rfl rfl (fun _ => (pss_one (ps_set (i := 1) sc_law_refused.nd rfl (Or.inl rfl) (pv 2)))) ⟨rfl, rfl, rfl⟩)
      (pss_cons (ps_if (PW.pt (pw_or (pt_not (pt_val (pe_callB (show CallR _ _ (rIsX2 K) from call_isX2) (by rfl) Z.z_isinstance boot_isinstance (pa_cons (pv 1) (pa_cons (pe_glob (v := .ref ad0.c_NoRow) (by rfl) Z.M_NoRow rfl) pa_nil))))) (pw_or1 (pt_not (pt_val (pe_callB (show CallR _ _ (rIsX2 K) from call_isX2) (by rfl) Z.z_isinstance boot_isinstance (pa_cons (pv 1) (pa_cons (pe_bltn (v := .ty "ValueError") (by rfl) Z.z_ValueError PyProof.Rows.Boot.«ValueError» rfl) pa_nil)))))))) (pss_one (ps_ret pe_bl)) pss_nil)
      (pss_cons (ps_if (PW.pt (pw_or (pt_val (pe_callB (show CallR _ _ (rIsX2 K) from call_isX2) (by rfl) Z.z_isinstance boot_isinstance (pa_cons (pv 1) (pa_cons (pe_glob (v := .ref ad0.c_NoPair) (by rfl) Z.M_NoPair rfl) pa_nil)))) (pw_or (pt_val (pe_callB (show CallR _ _ (rIsX2 K) from call_isX2) (by rfl) Z.z_isinstance boot_isinstance (pa_cons (pv 1) (pa_cons (pe_glob (v := .ref ad0.c_NoText) (by rfl) Z.M_NoText rfl) pa_nil)))) (pw_or1 (pt_val (pe_callB (show CallR _ _ (rIsX2 K) from call_isX2) (by rfl) Z.z_isinstance boot_isinstance (pa_cons (pv 1) (pa_cons (pe_glob (v := .ref ad0.c_NoName) (by rfl) Z.M_NoName rfl) pa_nil)))))))) (pss_one (ps_ret pe_bl)) pss_nil)
      (pss_one (ps_ret (pe_and (pe_call G_law_whole (hr.mono (by decide)) (by rfl) Z.M_law_whole Z.F_law_whole.kp Z.B_law_whole .nil pass0 (pa_cons (pe_errFld (pv 1) (by rfl)) pa_nil)) (pe_one (pe_cmpR op_eq (pe_errFld (pv 1) (by rfl)) pe_int (nomark _)))))))))), ?_⟩)
  refine go_spD h (by rw [spD_len (n := 1) (by rintro ds ⟨⟨r, rfl, _⟩, _⟩; rfl) h]; decide) fun G ds hp rt => ?_
  obtain ⟨⟨r, rfl, hl⟩, hbad⟩ := hp
  refine go_seq (go_set ev_non ?_)
  ((try dsimp only); refine nx_go ?_)
  refine go_seq (go_tryX2 (i := 2) (j := 1) (pre := preS) (bad := badFo) (res := resFoD) (err := fun _ => .int 1) (evaf_cons (ev_var rfl) evaf_nil) ⟨r, rfl, hl⟩ hbad Z.H_NoRow_FolkError (by decide) (by show 2 < 3; decide) (by show 1 < 3; decide) fun x dx => ?_)
  ((try dsimp only); refine nx_go ?_)
  refine go_seq (go_if (b := (!true || !true)) (evt_or (evt_not (evt_b (ev_isX2 (j := 1) rfl Z.T_NoRow (.inl ⟨_, rfl, rfl⟩) Z.I_NoRow_NoRow))) fun _ => evt_not (evt_b (ev_isX2 (j := 1) rfl Z.T_NoRow (.inr ⟨_, rfl, rfl⟩) Z.I_NoRow_ValueError))) (fun hb => by simp at hb) (fun _ => ?_))
  refine go_next ?_
  ((try dsimp only); refine nx_go ?_)
  refine go_seq (go_if (b := (false || (false || false))) (evt_or (evt_b (ev_isX2 (j := 1) rfl Z.T_NoRow (.inl ⟨_, rfl, rfl⟩) Z.I_NoRow_NoPair)) fun _ => evt_or (evt_b (ev_isX2 (j := 1) rfl Z.T_NoRow (.inl ⟨_, rfl, rfl⟩) Z.I_NoRow_NoText)) fun _ => evt_b (ev_isX2 (j := 1) rfl Z.T_NoRow (.inl ⟨_, rfl, rfl⟩) Z.I_NoRow_NoName)) (fun hb => by simp at hb) (fun _ => ?_))
  refine go_next ?_
  ((try dsimp only); refine nx_go ?_)
  exact go_ret (d := .bl (true && decide ((1 : Int) = 1))) (ev_and (ev_call (pre := fun ds => ∃ c : Int, ds = [.int c]) (res := fun _ => .bl true) (evaf_cons (ev_errFld (j := 1) rfl Z.T_NoRow Z.Na_NoRow_row) evaf_nil) ⟨1, rfl⟩) fun _ => ev_eqI (ev_errFld (j := 1) rfl Z.T_NoRow Z.Na_NoRow_row).b ev_int.b) rt
def spLaw (K : PySem.W.Frag) : Sp := fun vs H Q _ => ∃ (a : Addr) (ns : List Int), vs = [.ref a] ∧ SqL K H a (ns.map V.int) ∧ ns.length ≤ 63 ∧ ∀ H', Q (.bl true) H'
theorem reps_ints {K : PySem.W.Frag} {H : Hp} : ∀ ns : List Int, Reps K H (ns.map D.int) (ns.map V.int)
  | [] => Reps.nil
  | n :: ns => Reps.cons Rep.int (reps_ints ns)
theorem cell_int (ns : List Int) (k : Int) : ∃ i, resCell [.lst (ns.map .int), .int k] = .int i := by
  show ∃ i, (ns.map D.int).getD k.toNat (.int 0) = .int i
  rw [List.getD_eq_getElem?_getD, List.getElem?_map]
  cases ns[k.toNat]? <;> exact ⟨_, rfl⟩
theorem take11 (c : List Nat) : cutL c none (some 11) = c.take 11 := cut_to c 11
def fresh (c : List Nat) (x : Nat) : List Nat := c.take 11 ++ (if decide ([x] = [97]) then [98] else [97])
theorem fresh_ok {c : List Nat} {x : Nat} (h : NameOk c) (hx : c.getLast? = some x) : NameOk (fresh c x) ∧ c ≠ fresh c x := by
  obtain ⟨h1, h2, h3⟩ := h
  have hl : (if decide ([x] = [97]) then [98] else [97] : List Nat).length = 1 := by split <;> rfl
  have hlen : (fresh c x).length = min 11 c.length + 1 := by unfold fresh; rw [List.length_append, hl, List.length_take]
  refine ⟨⟨by omega, by omega, fun y hy => ?_⟩, fun e => ?_⟩
  · unfold fresh at hy
    rcases List.mem_append.mp hy with hy | hy
    · exact h3 y (List.mem_of_mem_take hy)
    · split at hy <;> (rw [List.mem_singleton] at hy; subst hy; decide +kernel)
  · have hc : c.length = 12 := by have := congrArg List.length e; rw [hlen] at this; omega
    rw [e] at hx
    unfold fresh at hx
    rw [List.getLast?_append] at hx
    by_cases hxa : x = 97
    · rw [if_pos (by simp [hxa])] at hx
      simp at hx; omega
    · rw [if_neg (by simp [hxa])] at hx
      simp at hx; omega
def words7 : List (List Nat) := flds ++ prs
theorem flds_take : ∀ k, k < 5 → words7.getD k [] ∈ flds := by decide +kernel
theorem prs_drop : ∀ k, k < 7 → 5 ≤ k → words7.getD k [] ∈ prs := by decide +kernel
theorem text_tr {t : List Nat} (h : TextOk t) : textB t = true := text_true h
theorem fof_good {c f t : List Nat} (h : RowOk (c, f, t)) : fof (((c ++ [32] ++ f) ++ [32]) ++ t) = some (resFo (c, f, t)) := by
  obtain ⟨hc, hft⟩ := h
  dsimp only at hc hft
  have hfm : f ∈ flds ++ prs := by
    rcases hft with h | h
    · exact List.mem_append_left _ h.1
    · exact List.mem_append_right _ h.1
  have sp := split_three (z := 32) (c := t) (lets32 hc) (fl_word f hfm)
  have er : ((c ++ [32] ++ f) ++ [32]) ++ t = c ++ 32 :: (f ++ 32 :: t) := by simp
  rw [er]
  unfold fof
  rw [sp]
  show (if nameB c = true then _ else _) = _
  rw [if_pos (name_true hc)]
  rcases hft with ⟨h1, h2⟩ | ⟨h1, h2, h3⟩
  · rw [if_pos ⟨h1, text_tr h2⟩]
    unfold resFo; rw [if_neg (fl_not_pr f h1)]
  · rw [if_neg fun z => pr_not_fl f h1 z.1, if_pos ⟨h1, name_true h2, h3⟩]
    unfold resFo; rw [if_pos h1]; rfl
theorem ok_law (Z : Tx K mg ad0) : FnOk P w K mg base CX0 21 ad0.f_law ad0.d_law ["_law_script"] (spLaw K) := by
  have G_law_cell_at := ok_law_cell_at (P := P) (w := w) (base := base) Z
  have G_law_name := ok_law_name (P := P) (w := w) (base := base) Z
  have G_law_text := ok_law_text (P := P) (w := w) (base := base) Z
  have G_law_stream := ok_law_stream (P := P) (w := w) (base := base) Z
  have G_law_refused := ok_law_refused (P := P) (w := w) (base := base) Z
  have G_law_spoiled := ok_law_spoiled (P := P) (w := w) (base := base) Z
  have G_fact_of := ok_fact_of (P := P) (w := w) (base := base) Z
  refine Z.F_law.ok sc_law (fun vs H Q E h => by obtain ⟨a, ns, rfl, _⟩ := h; rfl) (fun cdv A outer s H vs Q E hr h => ⟨_, (pss_cons (ps_for PassesOwn.never rfl (pi_rangeS (c := 3) (by decide) (by decide) (by rfl) Z.z_range (pa_cons pe_int (pa_cons (pe_callB (call_max2 rfl) (by rfl) Z.z_max boot_max (pa_cons pe_int (pa_cons (pe_callB (call_min2 rfl) (by rfl) Z.z_min boot_min (pa_cons (pe_callB call_len_seq (by rfl) Z.z_len boot_len (pa_cons (pv 0) pa_nil)) (pa_cons pe_int pa_nil))) pa_nil))) (pa_cons pe_int pa_nil)))) (pg_name (i := 1) sc_law.nd rfl (Or.inl rfl)) (pss_cons (ps_set (i := 2) sc_law.nd rfl (Or.inl rfl) (pe_call G_law_name (hr.mono (by decide)) (by rfl) Z.M_law_name Z.F_law_name.kp Z.B_law_name .nil pass0 (pa_cons (pe_call G_law_cell_at (hr.mono (by decide)) (by rfl) Z.M_law_cell_at Z.F_law_cell_at.kp Z.B_law_cell_at .nil pass0 (pa_cons (pv 0) (pa_cons (pv 1) pa_nil))) pa_nil)))
      (pss_cons (ps_set (i := 3) sc_law.nd rfl (Or.inl rfl) (pe_call G_law_cell_at (hr.mono (by decide)) (by rfl) Z.M_law_cell_at Z.F_law_cell_at.kp Z.B_law_cell_at .nil pass0 (pa_cons (pv 0) (pa_cons (pe_op op_add (pv 1) pe_int) pa_nil))))
      (pss_cons (ps_set (i := 4) sc_law.nd rfl (Or.inl rfl) (pe_call G_law_stream (hr.mono (by decide)) (by rfl) Z.M_law_stream Z.F_law_stream.kp Z.B_law_stream .nil pass0 (pa_cons (pe_call G_law_cell_at (hr.mono (by decide)) (by rfl) Z.M_law_cell_at Z.F_law_cell_at.kp Z.B_law_cell_at .nil pass0 (pa_cons (pv 0) (pa_cons (pe_op op_add (pv 1) pe_int) pa_nil))) (pa_cons pe_int pa_nil))))
      (pss_cons (ps_set (i := 5) sc_law.nd rfl (Or.inl rfl) (pe_ix (show IxR _ (rIxL K) from ix_list) (pe_lst (pa_cons pe_str (pa_cons pe_str (pa_cons pe_str (pa_cons pe_str (pa_cons pe_str (pa_cons pe_str (pa_cons pe_str pa_nil)))))))) (pe_op op_mod (pv 3) pe_int) (fun _ _ => rfl)))
      (pss_cons (ps_set (i := 6) sc_law.nd rfl (Or.inl rfl) (pe_call G_law_text (hr.mono (by decide)) (by rfl) Z.M_law_text Z.F_law_text.kp Z.B_law_text .nil pass0 (pa_cons (pe_ix (show IxR _ (rIxL K) from ix_list) (pv 4) pe_int (fun _ _ => rfl)) pa_nil)))
      (pss_cons (ps_if (pt_cmpR op_gt (pe_op op_mod (pv 3) pe_int) pe_int (nomark _)) (pss_one (ps_set (i := 6) sc_law.nd rfl (Or.inl rfl) (pe_op op_add_str (pe_slice sl_str (pv 2) po_none (po_some pe_int)) (pe_ix (show IxR _ (rIxL K) from ix_list) (pe_lst (pa_cons pe_str (pa_cons pe_str pa_nil))) (pe_callTy call_int1 (by rfl) Z.z_int boot_int (pa_cons (pe_cmpR op_eq (pe_ix ix_str (pv 2) (pe_un un_neg pe_int) (fun _ _ => rfl)) pe_str (nomark _)) pa_nil)) (fun _ _ => rfl))))) pss_nil)
      (pss_cons (ps_if (pt_not (pt_val (pe_call G_law_refused (hr.mono (by decide)) (by rfl) Z.M_law_refused Z.F_law_refused.kp Z.B_law_refused .nil pass0 (pa_cons (pe_call G_law_spoiled (hr.mono (by decide)) (by rfl) Z.M_law_spoiled Z.F_law_spoiled.kp Z.B_law_spoiled .nil pass0 (pa_cons (pv 2) (pa_cons (pv 5) (pa_cons (pv 6) (pa_cons (pe_op op_mod (pe_op op_fdiv (pv 3) pe_int) pe_int) (pa_cons (pe_ix (show IxR _ (rIxL K) from ix_list) (pv 4) pe_int (fun _ _ => rfl)) pa_nil)))))) pa_nil)))) (pss_one (ps_ret pe_bl)) pss_nil)
      (pss_cons (ps_set (i := 7) sc_law.nd rfl (Or.inl rfl) (pe_tup (pa_cons (pv 2) (pa_cons (pv 5) (pa_cons (pv 6) pa_nil)))))
      (pss_cons (ps_if (pt_cmpR op_gt (pe_op op_mod (pv 3) pe_int) pe_int (nomark _)) (pss_one (ps_set (i := 7) sc_law.nd rfl (Or.inl rfl) (pe_tup (pa_cons (pe_callB (call_minS rfl) (by rfl) Z.z_min boot_min (pa_cons (pv 2) (pa_cons (pv 6) pa_nil))) (pa_cons (pv 5) (pa_cons (pe_callB (call_maxS rfl) (by rfl) Z.z_max boot_max (pa_cons (pv 2) (pa_cons (pv 6) pa_nil))) pa_nil)))))) pss_nil)
      (pss_one (ps_if (pt_cmpR (show OpR _ _ (rNeD K) from op_neD hr.units) (pe_call G_fact_of (hr.mono (by decide)) (by rfl) Z.M_fact_of Z.F_fact_of.kp Z.B_fact_of .nil pass20 (pa_cons (pe_op op_add_str (pe_op op_add_str (pe_op op_add_str (pe_op op_add_str (pv 2) pe_str) (pv 5)) pe_str) (pv 6)) pa_nil)) (pv 7) (nomark _)) (pss_one (ps_ret pe_bl)) pss_nil))))))))))))
      (pss_one (ps_ret pe_bl))), ?_⟩)
  obtain ⟨a, ns, rfl, sq, hl, hQ⟩ := h
  have r : Reps K H [.lst (ns.map .int)] [.ref a] := Reps.cons (Rep.lst sq (reps_ints ns)) Reps.nil
  have rt : RtD K H H Q (.bl true) := fun v F H' e r => by rw [r.of_bl]; exact hQ H'
  refine (?_ : Go K H H H _ (slots 8 [.lst (ns.map .int)]) _) H H _ (sat_start (Same.refl H) r (by simp))
  generalize hN0 : (if (if (60 : Int) < ((ns.map D.int).length : Int) then (60 : Int) else ((ns.map D.int).length : Int)) > 1 then (if (60 : Int) < ((ns.map D.int).length : Int) then (60 : Int) else ((ns.map D.int).length : Int)) else 1) = n0
  have hn0 : 0 ≤ n0 ∧ n0 < 2 ^ 30 := by
    rw [← hN0]; rw [List.length_map]; split <;> split <;> omega
  have hcell : ∀ {L0 : Hp} {ss : List Sl} {tk : TE} {k : Int} {EX : XK}, ss[0]? = some (.d (.lst (ns.map .int))) → Ev K H H L0 ss tk (.int k) → 0 ≤ k → Ev K H H L0 ss (tCall (SpD K preCell resCell) [] EX (tCons (tVar 0) (tCons tk tNil))) (resCell [.lst (ns.map .int), .int k]) := fun {L0 ss tk k EX} hs hk h0 =>
    ev_call (pre := preCell) (res := resCell) (evaf_cons (ev_var hs) (evaf_cons hk evaf_nil)) ⟨ns, k, rfl, h0⟩
  refine go_seq (go_rangeS (m := 0) (n := n0) (c := 3) (fun k ss => ∃ v1 v2 v3 v4 v5 v6 v7 : Sl, ss = [.d (.lst (ns.map .int)), v1, v2, v3, v4, v5, v6, v7]) (eva_cons ev_int.b (eva_cons (by rw [← hN0]; exact (ev_maxI ev_int.b (ev_minI (ev_lenL (ev_var rfl).l).b ev_int.b).b).b) (eva_cons ev_int.b eva_nil))) ⟨by decide, by decide, hn0.1, hn0.2⟩ ⟨.un, .un, .un, .un, .un, .un, .un, rfl⟩ ?_ ?_)
  · rintro k ss hk ⟨v1, v2, v3, v4, v5, v6, v7, rfl⟩ N hN
    have hk0 : (0 : Int) ≤ 0 + (k : Int) * 3 := by omega
    generalize (0 : Int) + (k : Int) * 3 = q at hk0
    obtain ⟨c1, e1⟩ := cell_int ns q
    obtain ⟨c2, e2⟩ := cell_int ns (q + 1)
    obtain ⟨c3, e3⟩ := cell_int ns (q + 2)
    refine go_seq (go_asgRD (pre := preI) (R := relN) (ds := [.int c1]) (evaf_cons (by rw [← e1]; exact hcell rfl (ev_var rfl) hk0) evaf_nil) ⟨c1, rfl⟩ fun r hR => ?_)
    obtain ⟨c, rfl, hc⟩ := hR
    refine ⟨_, tg_name, ?_⟩
    ((try dsimp only); refine nx_go ?_)
    refine go_seq (go_set (d := .int c2) (by rw [← e2]; exact hcell rfl (ev_add (ev_var rfl).b ev_int.b) (by omega)) ?_)
    ((try dsimp only); refine nx_go ?_)
    refine go_seq (go_setO (ds := streamD c3 2) (by
      rw [show streamD c3 2 = resStream [.int c3, .int 2] from rfl]
      exact evo_call (pre := preStream) (res := resStream) (evaf_cons (by rw [← e3]; exact hcell rfl (ev_add (ev_var rfl).b ev_int.b) (by omega)) (evaf_cons ev_int evaf_nil)) ⟨c3, 2, rfl, by decide, by decide⟩) fun pm => nx_freeze (i := 4) rfl ?_)
    ((try dsimp only); refine nx_go ?_)
    refine go_seq (go_set (ev_ixL (ds := words7.map D.str) (EvO.l (evo_lst (evaf_cons (ev_str (by decide +kernel) (by decide)) (evaf_cons (ev_str (by decide +kernel) (by decide)) (evaf_cons (ev_str (by decide +kernel) (by decide)) (evaf_cons (ev_str (by decide +kernel) (by decide)) (evaf_cons (ev_str (by decide +kernel) (by decide)) (evaf_cons (ev_str (by decide +kernel) (by decide)) (evaf_cons (ev_str (by decide +kernel) (by decide)) evaf_nil))))))) (small (by decide)))) (ev_mod (ev_var rfl).b ev_int.b (by decide)).b (atS_mod words7 _ rfl (by decide))) ?_)
    ((try dsimp only); refine nx_go ?_)
    have g1 := Int.emod_nonneg c2 (show (7 : Int) ≠ 0 by decide)
    have g2 := Int.emod_lt_of_pos c2 (show (0 : Int) < 7 by decide)
    have hff : ¬ 4 < c2 % 7 → words7.getD (c2 % 7).toNat [] ∈ flds := fun h => flds_take _ (by omega)
    have hfp : 4 < c2 % 7 → words7.getD (c2 % 7).toNat [] ∈ prs := fun h => prs_drop _ (by omega) (by omega)
    generalize words7.getD (c2 % 7).toNat [] = f at hff hfp
    refine go_seq (go_asgRD (pre := preI) (R := relT) (ds := [.int (num c3 2)]) (evaf_cons (ev_ixL (ev_var rfl).l ev_int.b rfl) evaf_nil) ⟨_, rfl⟩ fun r hR => ?_)
    obtain ⟨t0, rfl, ht0⟩ := hR
    refine ⟨_, tg_name, ?_⟩
    ((try dsimp only); refine nx_go ?_)
    have hcz : c.length ≤ sizeLine := small (by have := hc.2.1; omega)
    obtain ⟨x, hx⟩ : ∃ x, c.getLast? = some x := by
      cases hcl : c.getLast? with
      | none => have := List.getLast?_eq_none_iff.mp hcl; subst this; have := hc.1; simp at this
      | some x => exact ⟨x, rfl⟩
    have hfr := fresh_ok hc hx
    refine go_join (fun ss => ∃ t : List Nat, ss = [.d (.lst (ns.map .int)), .d (.int q), .d (.str c), .d (.int c2), .d (.lst (streamD c3 2)), .d (.str f), .d (.str t), v7] ∧ RowOk (c, f, t)) (fun N' hN' => go_if (evt_test (ev_gt (ev_mod (ev_var rfl).b ev_int.b (by decide)).b ev_int.b)) (fun hb => ?_) (fun hb => ?_)) ?_
    · have hf := hfp (of_decide_eq_true hb)
      have hat : atI [D.str [97], D.str [98]] (if decide ([x] = [97]) then 1 else 0) = some (.str (if decide ([x] = [97]) then [98] else [97])) := by
        cases decide ([x] = [97]) <;> rfl
      refine go_set (d := .str (fresh c x)) ?_ (hN' _ ⟨fresh c x, rfl, hc, .inr ⟨hf, hfr.1, hfr.2⟩⟩)
      unfold fresh
      rw [← take11]
      refine ev_catS (ev_slS (ev_var rfl).b evp_no (evp_part ev_int.b) hcz).b (ev_ixL (ds := [.str [97], .str [98]]) (EvO.l (evo_lst (evaf_cons (ev_str (by decide +kernel) (by decide)) (evaf_cons (ev_str (by decide +kernel) (by decide)) evaf_nil)) (small (by decide)))) (ev_intB (ev_eqS (ev_ixS (ev_var rfl).b (ev_neg ev_int.b).b hcz (atI_neg1 hx)).b (ev_str (l := [97]) (by decide +kernel) (by decide)).b).b).b hat).b ?_
      rw [take11, List.length_take, sizeLine_eq]
      have : (if decide ([x] = [97]) then [98] else [97] : List Nat).length = 1 := by split <;> rfl
      rw [this]; omega
    · have hf := hff (of_decide_eq_false hb)
      exact go_next (hN' _ ⟨t0, rfl, hc, .inl ⟨hf, ht0⟩⟩)
    · rintro ss ⟨t, rfl, hrow⟩
      have hl1 := hc.2.1
      have hfl : f.length ≤ 6 := by
        have hm : f ∈ flds ++ prs := by
          rcases hrow.2 with h | h
          · exact List.mem_append_left _ h.1
          · exact List.mem_append_right _ h.1
        exact (fld_plain f hm).2
      have htl : t.length ≤ 40 := by
        rcases hrow.2 with h | h
        · exact h.2.2.1
        · have := h.2.1.2.1; dsimp only at this; omega
      refine go_seq (go_if (b := !true) (evt_not (evt_b (ev_callE (eae_consE (eve_call (pre := preSp) (R := relSp) (ds := [.str c, .str f, .str t, .int (c2 / 7 % 11), .int (num c3 3)]) (evaf_cons (ev_var rfl) (evaf_cons (ev_var rfl) (evaf_cons (ev_var rfl) (evaf_cons (ev_mod (ev_fdiv (ev_var rfl).b ev_int.b ⟨by decide, by decide⟩).b ev_int.b (by decide)) (evaf_cons (ev_ixL (ev_var rfl).l ev_int.b rfl) evaf_nil))))) ⟨c, f, t, _, _, rfl, hrow⟩) evaf_nil) (by rintro l ⟨d, ⟨b, rfl, h1, h2⟩, rfl⟩; exact ⟨⟨b, rfl, by omega⟩, h1⟩)))) (fun hb => by cases hb) (fun _ => ?_))
      refine go_next ?_
      ((try dsimp only); refine nx_go ?_)
      refine go_seq (go_set (d := .tup [.str c, .str f, .str t]) (ev_tup (evaf_cons (ev_var rfl) (evaf_cons (ev_var rfl) (evaf_cons (ev_var rfl) evaf_nil))) (small (by simp))) ?_)
      ((try dsimp only); refine nx_go ?_)
      refine go_join (fun ss => ss = [.d (.lst (ns.map .int)), .d (.int q), .d (.str c), .d (.int c2), .d (.lst (streamD c3 2)), .d (.str f), .d (.str t), .d (resFo (c, f, t))]) (fun N' hN' => go_if (evt_test (ev_gt (ev_mod (ev_var rfl).b ev_int.b (by decide)).b ev_int.b)) (fun hb => ?_) (fun hb => ?_)) ?_
      · have er : resFo (c, f, t) = .tup [.str (minL c t), .str f, .str (maxL c t)] := by unfold resFo; rw [if_pos (hfp (of_decide_eq_true hb))]
        exact go_set (ev_tup (evaf_cons (ev_minS (ev_var rfl).b (ev_var rfl).b) (evaf_cons (ev_var rfl) (evaf_cons (ev_maxS (ev_var rfl).b (ev_var rfl).b) evaf_nil))) (small (by simp))) (hN' _ (by rw [er]; rfl))
      · have er : resFo (c, f, t) = .tup [.str c, .str f, .str t] := by unfold resFo; rw [if_neg (fl_not_pr f (hff (of_decide_eq_false hb)))]
        exact go_next (hN' _ (by rw [er]; rfl))
      · rintro ss rfl
        obtain ⟨a1, a2, a3, eres⟩ : ∃ a1 a2 a3, resFo (c, f, t) = .tup [.str a1, .str a2, .str a3] := by
          unfold resFo; split <;> exact ⟨_, _, _, rfl⟩
        have hgood := fof_good hrow
        have ecall : resFoD [.str (((c ++ [32] ++ f) ++ [32]) ++ t)] = resFo (c, f, t) := by show (fof _).getD .non = _; rw [hgood]; rfl
        refine go_if (b := !decide (resFo (c, f, t) = resFo (c, f, t))) (evt_test (ev_neD (Ev.b (by
          rw [← ecall]
          exact ev_callX2 (bad := badFo) (evaf_cons (ev_catS (ev_catS (ev_catS (ev_catS (ev_var rfl).b (ev_str (l := [32]) (by decide +kernel) (by decide)).b (small (by simp; omega))).b (ev_var rfl).b (small (by simp; omega))).b (ev_str (l := [32]) (by decide +kernel) (by decide)).b (small (by simp; omega))).b (ev_var rfl).b (small (by simp; omega))) evaf_nil) ⟨_, rfl, by simp; omega⟩ (fun z => by have z : fof _ = none := z; rw [hgood] at z; cases z))) (ev_var rfl).b (by rw [eres]; rfl) (by rw [eres]; rfl) (by rw [eres]; simp [D.dep, D.deps]))) (fun hb => by simp at hb) (fun _ => go_next (hN _ ⟨_, _, _, _, _, _, _, rfl⟩))
  · rintro ss ⟨v1, v2, v3, v4, v5, v6, v7, rfl⟩
    ((try dsimp only); refine nx_go ?_)
    exact go_ret ev_bl rt
end
theorem lcase1 {α : Type} {P : List α → Prop} {us : List α} (hl : us.length = 1) (h : ∀ a0, P [a0]) : P us := match us, hl with
  | [a0], _ => h a0
theorem lcase2 {α : Type} {P : List α → Prop} {us : List α} (hl : us.length = 2) (h : ∀ a0 a1, P [a0, a1]) : P us := match us, hl with
  | [a0, a1], _ => h a0 a1
theorem lcase3 {α : Type} {P : List α → Prop} {us : List α} (hl : us.length = 3) (h : ∀ a0 a1 a2, P [a0, a1, a2]) : P us := match us, hl with
  | [a0, a1, a2], _ => h a0 a1 a2
theorem lcase5 {α : Type} {P : List α → Prop} {us : List α} (hl : us.length = 5) (h : ∀ a0 a1 a2 a3 a4, P [a0, a1, a2, a3, a4]) : P us := match us, hl with
  | [a0, a1, a2, a3, a4], _ => h a0 a1 a2 a3 a4
theorem bd_NoRow_init (kV doc pm : Value) (an : Option Addr) (cdv ct : Value) (us : List Value) (hl : us.length = (["self", "row"] : List Str).length) : bindArgs (PySem.W.fnOf "__init__" "NoRow.__init__" (defArgs s_NoRow_init) (defBody s_NoRow_init) (defScope s_NoRow_init) .none kV doc pm an cdv ct) ⟨us, []⟩ = pure ((["self", "row"] : List Str).zip us) :=
  lcase2 (P := fun us => bindArgs _ ⟨us, []⟩ = pure (List.zip _ us)) hl fun _ _ => rfl
theorem bd_is_name (kV doc pm : Value) (an : Option Addr) (cdv ct : Value) (us : List Value) (hl : us.length = (["text"] : List Str).length) : bindArgs (PySem.W.fnOf "is_name" "is_name" (defArgs s_is_name) (defBody s_is_name) (defScope s_is_name) .none kV doc pm an cdv ct) ⟨us, []⟩ = pure ((["text"] : List Str).zip us) :=
  lcase1 (P := fun us => bindArgs _ ⟨us, []⟩ = pure (List.zip _ us)) hl fun _ => rfl
theorem bd_is_sign (kV doc pm : Value) (an : Option Addr) (cdv ct : Value) (us : List Value) (hl : us.length = (["sign"] : List Str).length) : bindArgs (PySem.W.fnOf "is_sign" "is_sign" (defArgs s_is_sign) (defBody s_is_sign) (defScope s_is_sign) .none kV doc pm an cdv ct) ⟨us, []⟩ = pure ((["sign"] : List Str).zip us) :=
  lcase1 (P := fun us => bindArgs _ ⟨us, []⟩ = pure (List.zip _ us)) hl fun _ => rfl
theorem bd_is_text (kV doc pm : Value) (an : Option Addr) (cdv ct : Value) (us : List Value) (hl : us.length = (["text"] : List Str).length) : bindArgs (PySem.W.fnOf "is_text" "is_text" (defArgs s_is_text) (defBody s_is_text) (defScope s_is_text) .none kV doc pm an cdv ct) ⟨us, []⟩ = pure ((["text"] : List Str).zip us) :=
  lcase1 (P := fun us => bindArgs _ ⟨us, []⟩ = pure (List.zip _ us)) hl fun _ => rfl
theorem bd_pair_fact (kV doc pm : Value) (an : Option Addr) (cdv ct : Value) (us : List Value) (hl : us.length = (["one", "field", "other"] : List Str).length) : bindArgs (PySem.W.fnOf "pair_fact" "pair_fact" (defArgs s_pair_fact) (defBody s_pair_fact) (defScope s_pair_fact) .none kV doc pm an cdv ct) ⟨us, []⟩ = pure ((["one", "field", "other"] : List Str).zip us) :=
  lcase3 (P := fun us => bindArgs _ ⟨us, []⟩ = pure (List.zip _ us)) hl fun _ _ _ => rfl
theorem bd_fact_of (kV doc pm : Value) (an : Option Addr) (cdv ct : Value) (us : List Value) (hl : us.length = (["row"] : List Str).length) : bindArgs (PySem.W.fnOf "fact_of" "fact_of" (defArgs s_fact_of) (defBody s_fact_of) (defScope s_fact_of) .none kV doc pm an cdv ct) ⟨us, []⟩ = pure ((["row"] : List Str).zip us) :=
  lcase1 (P := fun us => bindArgs _ ⟨us, []⟩ = pure (List.zip _ us)) hl fun _ => rfl
theorem bd_law_cell_at (kV doc pm : Value) (an : Option Addr) (cdv ct : Value) (us : List Value) (hl : us.length = (["_law_script", "_law_k"] : List Str).length) : bindArgs (PySem.W.fnOf "_law_cell_at" "_law_cell_at" (defArgs s_law_cell_at) (defBody s_law_cell_at) (defScope s_law_cell_at) .none kV doc pm an cdv ct) ⟨us, []⟩ = pure ((["_law_script", "_law_k"] : List Str).zip us) :=
  lcase2 (P := fun us => bindArgs _ ⟨us, []⟩ = pure (List.zip _ us)) hl fun _ _ => rfl
theorem bd_law_whole (kV doc pm : Value) (an : Option Addr) (cdv ct : Value) (us : List Value) (hl : us.length = (["_law_found"] : List Str).length) : bindArgs (PySem.W.fnOf "_law_whole" "_law_whole" (defArgs s_law_whole) (defBody s_law_whole) (defScope s_law_whole) .none kV doc pm an cdv ct) ⟨us, []⟩ = pure ((["_law_found"] : List Str).zip us) :=
  lcase1 (P := fun us => bindArgs _ ⟨us, []⟩ = pure (List.zip _ us)) hl fun _ => rfl
theorem bd_law_stream (kV doc pm : Value) (an : Option Addr) (cdv ct : Value) (us : List Value) (hl : us.length = (["_law_cell", "_law_many"] : List Str).length) : bindArgs (PySem.W.fnOf "_law_stream" "_law_stream" (defArgs s_law_stream) (defBody s_law_stream) (defScope s_law_stream) .none kV doc pm an cdv ct) ⟨us, []⟩ = pure ((["_law_cell", "_law_many"] : List Str).zip us) :=
  lcase2 (P := fun us => bindArgs _ ⟨us, []⟩ = pure (List.zip _ us)) hl fun _ _ => rfl
theorem bd_law_name (kV doc pm : Value) (an : Option Addr) (cdv ct : Value) (us : List Value) (hl : us.length = (["_law_cell"] : List Str).length) : bindArgs (PySem.W.fnOf "_law_name" "_law_name" (defArgs s_law_name) (defBody s_law_name) (defScope s_law_name) .none kV doc pm an cdv ct) ⟨us, []⟩ = pure ((["_law_cell"] : List Str).zip us) :=
  lcase1 (P := fun us => bindArgs _ ⟨us, []⟩ = pure (List.zip _ us)) hl fun _ => rfl
theorem bd_law_text (kV doc pm : Value) (an : Option Addr) (cdv ct : Value) (us : List Value) (hl : us.length = (["_law_cell"] : List Str).length) : bindArgs (PySem.W.fnOf "_law_text" "_law_text" (defArgs s_law_text) (defBody s_law_text) (defScope s_law_text) .none kV doc pm an cdv ct) ⟨us, []⟩ = pure ((["_law_cell"] : List Str).zip us) :=
  lcase1 (P := fun us => bindArgs _ ⟨us, []⟩ = pure (List.zip _ us)) hl fun _ => rfl
theorem bd_law_bad_name (kV doc pm : Value) (an : Option Addr) (cdv ct : Value) (us : List Value) (hl : us.length = (["_law_name_here", "_law_draw"] : List Str).length) : bindArgs (PySem.W.fnOf "_law_bad_name" "_law_bad_name" (defArgs s_law_bad_name) (defBody s_law_bad_name) (defScope s_law_bad_name) .none kV doc pm an cdv ct) ⟨us, []⟩ = pure ((["_law_name_here", "_law_draw"] : List Str).zip us) :=
  lcase2 (P := fun us => bindArgs _ ⟨us, []⟩ = pure (List.zip _ us)) hl fun _ _ => rfl
theorem bd_law_spoiled (kV doc pm : Value) (an : Option Addr) (cdv ct : Value) (us : List Value) (hl : us.length = (["_law_card", "_law_field", "_law_text_here", "_law_way", "_law_draw"] : List Str).length) : bindArgs (PySem.W.fnOf "_law_spoiled" "_law_spoiled" (defArgs s_law_spoiled) (defBody s_law_spoiled) (defScope s_law_spoiled) .none kV doc pm an cdv ct) ⟨us, []⟩ = pure ((["_law_card", "_law_field", "_law_text_here", "_law_way", "_law_draw"] : List Str).zip us) :=
  lcase5 (P := fun us => bindArgs _ ⟨us, []⟩ = pure (List.zip _ us)) hl fun _ _ _ _ _ => rfl
theorem bd_law_refused (kV doc pm : Value) (an : Option Addr) (cdv ct : Value) (us : List Value) (hl : us.length = (["_law_row"] : List Str).length) : bindArgs (PySem.W.fnOf "_law_refused" "_law_refused" (defArgs s_law_refused) (defBody s_law_refused) (defScope s_law_refused) .none kV doc pm an cdv ct) ⟨us, []⟩ = pure ((["_law_row"] : List Str).zip us) :=
  lcase1 (P := fun us => bindArgs _ ⟨us, []⟩ = pure (List.zip _ us)) hl fun _ => rfl
theorem bd_law (kV doc pm : Value) (an : Option Addr) (cdv ct : Value) (us : List Value) (hl : us.length = (["_law_script"] : List Str).length) : bindArgs (PySem.W.fnOf "law" "law" (defArgs s_law) (defBody s_law) (defScope s_law) .none kV doc pm an cdv ct) ⟨us, []⟩ = pure ((["_law_script"] : List Str).zip us) :=
  lcase1 (P := fun us => bindArgs _ ⟨us, []⟩ = pure (List.zip _ us)) hl fun _ => rfl
theorem all_mk {l : PySem.W.OpenLaw} {w : World} {K : PySem.W.Frag} {h : Heap} {mg : Str → Option Value} {fa g0 g1 g2 g3 g4 g5 g6 g7 g8 g9 g10 g11 g12 g13 g14 : Addr} (X : K.In h) (G : h.Ns mainGlobals mg) (hfa : mg "law" = some (.ref fa))
    {od0 an0 od1 an1 od2 an2 od3 an3 od4 an4 od5 an5 od6 an6 od7 an7 od8 an8 od9 an9 od10 an10 od11 an11 od12 an12 od13 an13 od14 an14 : Option Addr} {sl0 sl1 sl2 sl3 sl4 sl5 sl6 sl7 sl8 sl9 sl10 sl11 sl12 sl13 sl14 : Array (Option Value)} {oc0 kV0 dc0 pm0 cd0 ct0 oc1 kV1 dc1 pm1 cd1 ct1 oc2 kV2 dc2 pm2 cd2 ct2 oc3 kV3 dc3 pm3 cd3 ct3 oc4 kV4 dc4 pm4 cd4 ct4 oc5 kV5 dc5 pm5 cd5 ct5 oc6 kV6 dc6 pm6 cd6 ct6 oc7 kV7 dc7 pm7 cd7 ct7 oc8 kV8 dc8 pm8 cd8 ct8 oc9 kV9 dc9 pm9 cd9 ct9 oc10 kV10 dc10 pm10 cd10 ct10 oc11 kV11 dc11 pm11 cd11 ct11 oc12 kV12 dc12 pm12 cd12 ct12 oc13 kV13 dc13 pm13 cd13 ct13 oc14 kV14 dc14 pm14 cd14 ct14 : Value}
    {q_FolkError : Addr} {q_NoName : Addr} {q_NoPair : Addr} {q_NoRow : Addr} {q_NoText : Addr} {q_FIELDS : Addr} {od_FIELDS : Option Addr} {nn_FIELDS : Nat} {sl_FIELDS : Array (Option Value)} {t0_FIELDS t1_FIELDS t2_FIELDS t3_FIELDS t4_FIELDS : Tok} {q_PAIR_FIELDS : Addr} {od_PAIR_FIELDS : Option Addr} {nn_PAIR_FIELDS : Nat} {sl_PAIR_FIELDS : Array (Option Value)} {t0_PAIR_FIELDS t1_PAIR_FIELDS : Tok} {t_LETTERS : Tok} {t_LONGEST_NAME : Tok} {t_LONGEST_TEXT : Tok} {t_NO_SIGN : Tok}
    (l0 : K.lookup g0 = some ⟨oc0, od0, .func (PySem.W.fnOf "__init__" "NoRow.__init__" (defArgs s_NoRow_init) (defBody s_NoRow_init) (defScope s_NoRow_init) .none kV0 dc0 pm0 an0 cd0 ct0), sl0⟩) (c0 : PySem.W.codeIn K cd0 "NoRow.__init__" = true) (k0 : PySem.W.keepIn K (.ref g0) = true) (mf0 : PySem.W.isFn K (.ref g0) = true)
    (a1 : PySem.W.nsIn K mainGlobals "is_name" = some (some (.ref g1))) (l1 : K.lookup g1 = some ⟨oc1, od1, .func (PySem.W.fnOf "is_name" "is_name" (defArgs s_is_name) (defBody s_is_name) (defScope s_is_name) .none kV1 dc1 pm1 an1 cd1 ct1), sl1⟩) (c1 : PySem.W.codeIn K cd1 "is_name" = true) (k1 : PySem.W.keepIn K (.ref g1) = true)
    (a2 : PySem.W.nsIn K mainGlobals "is_sign" = some (some (.ref g2))) (l2 : K.lookup g2 = some ⟨oc2, od2, .func (PySem.W.fnOf "is_sign" "is_sign" (defArgs s_is_sign) (defBody s_is_sign) (defScope s_is_sign) .none kV2 dc2 pm2 an2 cd2 ct2), sl2⟩) (c2 : PySem.W.codeIn K cd2 "is_sign" = true) (k2 : PySem.W.keepIn K (.ref g2) = true)
    (a3 : PySem.W.nsIn K mainGlobals "is_text" = some (some (.ref g3))) (l3 : K.lookup g3 = some ⟨oc3, od3, .func (PySem.W.fnOf "is_text" "is_text" (defArgs s_is_text) (defBody s_is_text) (defScope s_is_text) .none kV3 dc3 pm3 an3 cd3 ct3), sl3⟩) (c3 : PySem.W.codeIn K cd3 "is_text" = true) (k3 : PySem.W.keepIn K (.ref g3) = true)
    (a4 : PySem.W.nsIn K mainGlobals "pair_fact" = some (some (.ref g4))) (l4 : K.lookup g4 = some ⟨oc4, od4, .func (PySem.W.fnOf "pair_fact" "pair_fact" (defArgs s_pair_fact) (defBody s_pair_fact) (defScope s_pair_fact) .none kV4 dc4 pm4 an4 cd4 ct4), sl4⟩) (c4 : PySem.W.codeIn K cd4 "pair_fact" = true) (k4 : PySem.W.keepIn K (.ref g4) = true)
    (a5 : PySem.W.nsIn K mainGlobals "fact_of" = some (some (.ref g5))) (l5 : K.lookup g5 = some ⟨oc5, od5, .func (PySem.W.fnOf "fact_of" "fact_of" (defArgs s_fact_of) (defBody s_fact_of) (defScope s_fact_of) .none kV5 dc5 pm5 an5 cd5 ct5), sl5⟩) (c5 : PySem.W.codeIn K cd5 "fact_of" = true) (k5 : PySem.W.keepIn K (.ref g5) = true)
    (a6 : PySem.W.nsIn K mainGlobals "_law_cell_at" = some (some (.ref g6))) (l6 : K.lookup g6 = some ⟨oc6, od6, .func (PySem.W.fnOf "_law_cell_at" "_law_cell_at" (defArgs s_law_cell_at) (defBody s_law_cell_at) (defScope s_law_cell_at) .none kV6 dc6 pm6 an6 cd6 ct6), sl6⟩) (c6 : PySem.W.codeIn K cd6 "_law_cell_at" = true) (k6 : PySem.W.keepIn K (.ref g6) = true)
    (a7 : PySem.W.nsIn K mainGlobals "_law_whole" = some (some (.ref g7))) (l7 : K.lookup g7 = some ⟨oc7, od7, .func (PySem.W.fnOf "_law_whole" "_law_whole" (defArgs s_law_whole) (defBody s_law_whole) (defScope s_law_whole) .none kV7 dc7 pm7 an7 cd7 ct7), sl7⟩) (c7 : PySem.W.codeIn K cd7 "_law_whole" = true) (k7 : PySem.W.keepIn K (.ref g7) = true)
    (a8 : PySem.W.nsIn K mainGlobals "_law_stream" = some (some (.ref g8))) (l8 : K.lookup g8 = some ⟨oc8, od8, .func (PySem.W.fnOf "_law_stream" "_law_stream" (defArgs s_law_stream) (defBody s_law_stream) (defScope s_law_stream) .none kV8 dc8 pm8 an8 cd8 ct8), sl8⟩) (c8 : PySem.W.codeIn K cd8 "_law_stream" = true) (k8 : PySem.W.keepIn K (.ref g8) = true)
    (a9 : PySem.W.nsIn K mainGlobals "_law_name" = some (some (.ref g9))) (l9 : K.lookup g9 = some ⟨oc9, od9, .func (PySem.W.fnOf "_law_name" "_law_name" (defArgs s_law_name) (defBody s_law_name) (defScope s_law_name) .none kV9 dc9 pm9 an9 cd9 ct9), sl9⟩) (c9 : PySem.W.codeIn K cd9 "_law_name" = true) (k9 : PySem.W.keepIn K (.ref g9) = true)
    (a10 : PySem.W.nsIn K mainGlobals "_law_text" = some (some (.ref g10))) (l10 : K.lookup g10 = some ⟨oc10, od10, .func (PySem.W.fnOf "_law_text" "_law_text" (defArgs s_law_text) (defBody s_law_text) (defScope s_law_text) .none kV10 dc10 pm10 an10 cd10 ct10), sl10⟩) (c10 : PySem.W.codeIn K cd10 "_law_text" = true) (k10 : PySem.W.keepIn K (.ref g10) = true)
    (a11 : PySem.W.nsIn K mainGlobals "_law_bad_name" = some (some (.ref g11))) (l11 : K.lookup g11 = some ⟨oc11, od11, .func (PySem.W.fnOf "_law_bad_name" "_law_bad_name" (defArgs s_law_bad_name) (defBody s_law_bad_name) (defScope s_law_bad_name) .none kV11 dc11 pm11 an11 cd11 ct11), sl11⟩) (c11 : PySem.W.codeIn K cd11 "_law_bad_name" = true) (k11 : PySem.W.keepIn K (.ref g11) = true)
    (a12 : PySem.W.nsIn K mainGlobals "_law_spoiled" = some (some (.ref g12))) (l12 : K.lookup g12 = some ⟨oc12, od12, .func (PySem.W.fnOf "_law_spoiled" "_law_spoiled" (defArgs s_law_spoiled) (defBody s_law_spoiled) (defScope s_law_spoiled) .none kV12 dc12 pm12 an12 cd12 ct12), sl12⟩) (c12 : PySem.W.codeIn K cd12 "_law_spoiled" = true) (k12 : PySem.W.keepIn K (.ref g12) = true)
    (a13 : PySem.W.nsIn K mainGlobals "_law_refused" = some (some (.ref g13))) (l13 : K.lookup g13 = some ⟨oc13, od13, .func (PySem.W.fnOf "_law_refused" "_law_refused" (defArgs s_law_refused) (defBody s_law_refused) (defScope s_law_refused) .none kV13 dc13 pm13 an13 cd13 ct13), sl13⟩) (c13 : PySem.W.codeIn K cd13 "_law_refused" = true) (k13 : PySem.W.keepIn K (.ref g13) = true)
    (a14 : PySem.W.nsIn K mainGlobals "law" = some (some (.ref g14))) (l14 : K.lookup g14 = some ⟨oc14, od14, .func (PySem.W.fnOf "law" "law" (defArgs s_law) (defBody s_law) (defScope s_law) .none kV14 dc14 pm14 an14 cd14 ct14), sl14⟩) (c14 : PySem.W.codeIn K cd14 "law" = true) (k14 : PySem.W.keepIn K (.ref g14) = true)
    (a_FolkError : PySem.W.nsIn K mainGlobals "FolkError" = some (some (.ref q_FolkError)))
    (a_NoName : PySem.W.nsIn K mainGlobals "NoName" = some (some (.ref q_NoName)))
    (a_NoPair : PySem.W.nsIn K mainGlobals "NoPair" = some (some (.ref q_NoPair)))
    (a_NoRow : PySem.W.nsIn K mainGlobals "NoRow" = some (some (.ref q_NoRow)))
    (a_NoText : PySem.W.nsIn K mainGlobals "NoText" = some (some (.ref q_NoText)))
    (me_NoRow_init : PySem.W.findIn K (.ref q_NoRow) "__init__" = some (some (.ref g0))) (xi_NoRow : L2.excInI K q_NoRow L2.vmro "ValueError.__new__" g0 = true) (mc_NoRow : PySem.W.keepIn K (.ref q_NoRow) = true)
    (xs0_NoRow : PySem.W.findIn K (.ref q_NoRow) "__setattr__" = some (some (.builtin "object.__setattr__")))
    (xs1_NoRow : PySem.W.findIn K (.ref q_NoRow) "row" = some none)
    (xs2_NoRow : PySem.W.mroIn K q_NoRow (.type "object") = some true)
    (xs3_NoRow : PySem.W.hasDictIn K q_NoRow = true)
    (xi4_NoRow : ((PySem.W.clsIn K q_NoRow).any fun cd => L2.vtail cd.mro) = true)
    (cb0_FolkError : PySem.W.specialIn K (.ref q_FolkError) "__getattribute__" = some (some (.builtin "type.__getattribute__"))) (cb1_FolkError : PySem.W.readsIn K q_FolkError (.type "type") = true) (cb2_FolkError : PySem.W.findCls K (.ref q_FolkError) (.type "type") "__init__" = some (.val (.builtin "ValueError.__init__")))
    (t0_NoRow : PySem.W.findIn K (.ref q_NoRow) "__getattribute__" = some (some (.builtin "BaseException.__getattribute__")))
    (t1_NoRow : PySem.W.findIn K (.ref q_NoRow) "__getattr__" = some none)
    (t2_NoRow : PySem.W.mroIn K q_NoRow (.type "BaseException") = some true)
    (t3_NoRow : PySem.W.findIn K (.ref q_NoRow) "__class__" = some (some (.builtin "object.__class__")))
    (t4_NoRow : PySem.W.specialIn K (.builtin "object.__class__") "__get__" = some (some (.builtin "getset_descriptor.__get__")))
    (t5_NoRow : PySem.W.takesIn K (.builtin "object.__class__") = some true)
    (t6_NoRow : PySem.W.mroIn K q_NoRow (.type "object") = some true)
    (t7_NoRow : PySem.W.hasDictIn K q_NoRow = true)
    (h_NoRow_FolkError : PySem.W.exmOne K (.ref q_NoRow) (.ref q_FolkError) = some true)
    (i_NoRow_ValueError : PySem.W.kitOne K (.ref q_NoRow) (.type "ValueError") = some true)
    (i_NoRow_NoRow : PySem.W.kitOne K (.ref q_NoRow) (.ref q_NoRow) = some true)
    (i_NoRow_NoName : PySem.W.kitOne K (.ref q_NoRow) (.ref q_NoName) = some false)
    (i_NoRow_NoText : PySem.W.kitOne K (.ref q_NoRow) (.ref q_NoText) = some false)
    (i_NoRow_NoPair : PySem.W.kitOne K (.ref q_NoRow) (.ref q_NoPair) = some false)
    (na_NoRow_row : PySem.W.findIn K (.ref q_NoRow) "row" = some none)
    (a_FIELDS : PySem.W.nsIn K mainGlobals "FIELDS" = some (some (.ref q_FIELDS))) (l_FIELDS : K.lookup q_FIELDS = some ⟨.type "tuple", od_FIELDS, .seq #[.str (T [110, 97, 109, 101]) t0_FIELDS, .str (T [102, 111, 114, 109, 101, 114]) t1_FIELDS, .str (T [119, 97, 121]) t2_FIELDS, .str (T [100, 97, 121]) t3_FIELDS, .str (T [109, 97, 114, 107]) t4_FIELDS] nn_FIELDS, sl_FIELDS⟩)
    (a_PAIR_FIELDS : PySem.W.nsIn K mainGlobals "PAIR_FIELDS" = some (some (.ref q_PAIR_FIELDS))) (l_PAIR_FIELDS : K.lookup q_PAIR_FIELDS = some ⟨.type "tuple", od_PAIR_FIELDS, .seq #[.str (T [115, 97, 109, 101]) t0_PAIR_FIELDS, .str (T [97, 112, 97, 114, 116]) t1_PAIR_FIELDS] nn_PAIR_FIELDS, sl_PAIR_FIELDS⟩)
    (a_LETTERS : PySem.W.nsIn K mainGlobals "LETTERS" = some (some (.str (T [97, 98, 99, 100, 101, 102, 103, 104, 105, 106, 107, 108, 109, 110, 111, 112, 113, 114, 115, 116, 117, 118, 119, 120, 121, 122]) t_LETTERS)))
    (a_LONGEST_NAME : PySem.W.nsIn K mainGlobals "LONGEST_NAME" = some (some (.int 12 t_LONGEST_NAME)))
    (a_LONGEST_TEXT : PySem.W.nsIn K mainGlobals "LONGEST_TEXT" = some (some (.int 40 t_LONGEST_TEXT)))
    (a_NO_SIGN : PySem.W.nsIn K mainGlobals "NO_SIGN" = some (some (.int 37 t_NO_SIGN)))
    (y_ValueError : PySem.W.nsIn K mainGlobals "ValueError" = some none)
    (y_all : PySem.W.nsIn K mainGlobals "all" = some none)
    (y_bool : PySem.W.nsIn K mainGlobals "bool" = some none)
    (y_int : PySem.W.nsIn K mainGlobals "int" = some none)
    (y_isinstance : PySem.W.nsIn K mainGlobals "isinstance" = some none)
    (y_len : PySem.W.nsIn K mainGlobals "len" = some none)
    (y_max : PySem.W.nsIn K mainGlobals "max" = some none)
    (y_min : PySem.W.nsIn K mainGlobals "min" = some none)
    (y_ord : PySem.W.nsIn K mainGlobals "ord" = some none)
    (y_range : PySem.W.nsIn K mainGlobals "range" = some none)
    (y_tuple : PySem.W.nsIn K mainGlobals "tuple" = some none) :
    ∃ fd : FuncData, (∀ (s : Shared) (v : Value), BindsTo s fd ⟨[v], []⟩ [("_law_script", v)]) ∧ ∀ base : Heap, K.In base → base.Ns mainGlobals mg → FnOk l.prog w K mg base CX0 21 fa fd ["_law_script"] (spLaw K) := by
  have e := hfa.symm.trans (PySem.W.mg_of X G a14)
  cases e
  have F0 := fun_mk (st := s_NoRow_init) l0 c0 k0
  have b0 := F0.binds (ps := ["self", "row"]) bd_NoRow_init
  have F1 := fun_mk (st := s_is_name) l1 c1 k1
  have b1 := F1.binds (ps := ["text"]) bd_is_name
  have F2 := fun_mk (st := s_is_sign) l2 c2 k2
  have b2 := F2.binds (ps := ["sign"]) bd_is_sign
  have F3 := fun_mk (st := s_is_text) l3 c3 k3
  have b3 := F3.binds (ps := ["text"]) bd_is_text
  have F4 := fun_mk (st := s_pair_fact) l4 c4 k4
  have b4 := F4.binds (ps := ["one", "field", "other"]) bd_pair_fact
  have F5 := fun_mk (st := s_fact_of) l5 c5 k5
  have b5 := F5.binds (ps := ["row"]) bd_fact_of
  have F6 := fun_mk (st := s_law_cell_at) l6 c6 k6
  have b6 := F6.binds (ps := ["_law_script", "_law_k"]) bd_law_cell_at
  have F7 := fun_mk (st := s_law_whole) l7 c7 k7
  have b7 := F7.binds (ps := ["_law_found"]) bd_law_whole
  have F8 := fun_mk (st := s_law_stream) l8 c8 k8
  have b8 := F8.binds (ps := ["_law_cell", "_law_many"]) bd_law_stream
  have F9 := fun_mk (st := s_law_name) l9 c9 k9
  have b9 := F9.binds (ps := ["_law_cell"]) bd_law_name
  have F10 := fun_mk (st := s_law_text) l10 c10 k10
  have b10 := F10.binds (ps := ["_law_cell"]) bd_law_text
  have F11 := fun_mk (st := s_law_bad_name) l11 c11 k11
  have b11 := F11.binds (ps := ["_law_name_here", "_law_draw"]) bd_law_bad_name
  have F12 := fun_mk (st := s_law_spoiled) l12 c12 k12
  have b12 := F12.binds (ps := ["_law_card", "_law_field", "_law_text_here", "_law_way", "_law_draw"]) bd_law_spoiled
  have F13 := fun_mk (st := s_law_refused) l13 c13 k13
  have b13 := F13.binds (ps := ["_law_row"]) bd_law_refused
  have F14 := fun_mk (st := s_law) l14 c14 k14
  have b14 := F14.binds (ps := ["_law_script"]) bd_law
  exact ⟨_, fun s v => .of_eq rfl, fun base _ _ => ok_law (ad0 := ⟨q_FolkError, q_NoName, q_NoPair, q_NoRow, q_NoText, q_FIELDS, q_PAIR_FIELDS, g0, g1, g2, g3, g4, g5, g6, g7, g8, g9, g10, g11, g12, g13, _, _, _, _, _, _, _, _, _, _, _, _, _, _, _, _, _, _, _, _⟩) ⟨PySem.W.mg_of X G a_FolkError, PySem.W.mg_of X G a_NoName, PySem.W.mg_of X G a_NoPair, PySem.W.mg_of X G a_NoRow, PySem.W.mg_of X G a_NoText, ⟨xi_NoRow, mf0, mc_NoRow⟩, ⟨xs0_NoRow, xs1_NoRow, xs2_NoRow, xs3_NoRow, xi4_NoRow⟩, ⟨cb0_FolkError, cb1_FolkError, cb2_FolkError⟩, ⟨t0_NoRow, t1_NoRow, t2_NoRow, t3_NoRow, t4_NoRow, t5_NoRow, t6_NoRow, t7_NoRow⟩, h_NoRow_FolkError, i_NoRow_ValueError, i_NoRow_NoRow, i_NoRow_NoName, i_NoRow_NoText, i_NoRow_NoPair, na_NoRow_row, PySem.W.mg_of X G a_FIELDS, tupK_of l_FIELDS rfl rfl rfl (by decide) (by decide) (fun i l u h1 h2 => by rcases i with _ | _ | _ | _ | _ | i <;> simp at h1 h2 <;> (subst h1; subst h2; exact ⟨_, rfl⟩)), PySem.W.mg_of X G a_PAIR_FIELDS, tupK_of l_PAIR_FIELDS rfl rfl rfl (by decide) (by decide) (fun i l u h1 h2 => by rcases i with _ | _ | i <;> simp at h1 h2 <;> (subst h1; subst h2; exact ⟨_, rfl⟩)), PySem.W.mg_of X G a_LETTERS, ⟨_, rfl⟩, PySem.W.mg_of X G a_LONGEST_NAME, ⟨_, rfl⟩, PySem.W.mg_of X G a_LONGEST_TEXT, ⟨_, rfl⟩, PySem.W.mg_of X G a_NO_SIGN, ⟨_, rfl⟩, F0, b0, F1, b1, PySem.W.mg_of X G a1, F2, b2, PySem.W.mg_of X G a2, F3, b3, PySem.W.mg_of X G a3, F4, b4, PySem.W.mg_of X G a4, F5, b5, PySem.W.mg_of X G a5, F6, b6, PySem.W.mg_of X G a6, F7, b7, PySem.W.mg_of X G a7, F8, b8, PySem.W.mg_of X G a8, F9, b9, PySem.W.mg_of X G a9, F10, b10, PySem.W.mg_of X G a10, F11, b11, PySem.W.mg_of X G a11, F12, b12, PySem.W.mg_of X G a12, F13, b13, PySem.W.mg_of X G a13, F14, b14, PySem.W.mg_of X G a14, PySem.W.mg_none_of X G y_ValueError, PySem.W.mg_none_of X G y_all, PySem.W.mg_none_of X G y_bool, PySem.W.mg_none_of X G y_int, PySem.W.mg_none_of X G y_isinstance, PySem.W.mg_none_of X G y_len, PySem.W.mg_none_of X G y_max, PySem.W.mg_none_of X G y_min, PySem.W.mg_none_of X G y_ord, PySem.W.mg_none_of X G y_range, PySem.W.mg_none_of X G y_tuple⟩⟩
theorem walk {l : PySem.W.OpenLaw} {q : Program} {loose : List Str} {XP : (Str → Option Value) → Heap → Prop} {YP : World → Heap → Prop} {d : DefRec} {K : Params → PySem.W.Frag} (hn : l.most = some 63) (hdf : d.params.defaults = [])
    (hY : ∀ (w : World) (h : Heap), YP w h → (K w.params).In h)
    (F : ∀ (w : World) (mg : Str → Option Value) (fa : Addr) (h : Heap), (K w.params).In h → h.Ns mainGlobals mg → mg d.name = some (.ref fa) →
      ∃ fd : FuncData, (∀ (s : Shared) (u : Value), BindsTo s fd ⟨[u], []⟩ [("_law_script", u)]) ∧ ∀ base : Heap, (K w.params).In base → base.Ns mainGlobals mg → FnOk l.prog w (K w.params) mg base CX0 21 fa fd ["_law_script"] (spLaw (K w.params))) :
    PySem.W.WalkO q loose XP YP l.row.toRowW d [] (fun f vs => PySem.call f vs) :=
  L2.walk_of (n := 63) (k := 21) (x := "_law_script") (CX := fun _ => CX0) (sp := fun w => spLaw (K w.params)) hn (by decide) hdf ⟨rfl, by decide, by decide⟩ hY F (fun _ _ a ns hl _ hS => ⟨a, ns, rfl, hS, hl, fun _ => rfl⟩) fun _ _ _ _ _ z => z
end My
open PySem PySem.W PyProof.Rows
set_option maxRecDepth 100000 in
set_option maxHeartbeats 0 in
theorem PySem.Challenge.cw_folk_k10_rows_refused_holds : PySem.Challenge.rw_folk_k10_rows_refused.Holds := by
  w_on; o_law; k_head; (case hw => w_witness2)
  k_fill
  refine My.walk (l := PySem.Challenge.rw_folk_k10_rows_refused) rfl rfl (fun w h Y => PySem.W.kIn_of Y) ?F
  case F =>
    intro w mg fa h KX G hmg
    refine' My.all_mk KX G hmg ?l0 ?c0 ?k0 ?mf0 ?a1 ?l1 ?c1 ?k1 ?a2 ?l2 ?c2 ?k2 ?a3 ?l3 ?c3 ?k3 ?a4 ?l4 ?c4 ?k4 ?a5 ?l5 ?c5 ?k5 ?a6 ?l6 ?c6 ?k6 ?a7 ?l7 ?c7 ?k7 ?a8 ?l8 ?c8 ?k8 ?a9 ?l9 ?c9 ?k9 ?a10 ?l10 ?c10 ?k10 ?a11 ?l11 ?c11 ?k11 ?a12 ?l12 ?c12 ?k12 ?a13 ?l13 ?c13 ?k13 ?a14 ?l14 ?c14 ?k14 ?a_FolkError ?a_NoName ?a_NoPair ?a_NoRow ?a_NoText ?me_NoRow_init ?xi_NoRow ?mc_NoRow ?xs0_NoRow ?xs1_NoRow ?xs2_NoRow ?xs3_NoRow ?xi4_NoRow ?cb0_FolkError ?cb1_FolkError ?cb2_FolkError ?t0_NoRow ?t1_NoRow ?t2_NoRow ?t3_NoRow ?t4_NoRow ?t5_NoRow ?t6_NoRow ?t7_NoRow ?h_NoRow_FolkError ?i_NoRow_ValueError ?i_NoRow_NoRow ?i_NoRow_NoName ?i_NoRow_NoText ?i_NoRow_NoPair ?na_NoRow_row ?a_FIELDS ?l_FIELDS ?a_PAIR_FIELDS ?l_PAIR_FIELDS ?a_LETTERS ?a_LONGEST_NAME ?a_LONGEST_TEXT ?a_NO_SIGN ?y_ValueError ?y_all ?y_bool ?y_int ?y_isinstance ?y_len ?y_max ?y_min ?y_ord ?y_range ?y_tuple
    (case a_FolkError => k_is)
    (case a_NoName => k_is)
    (case a_NoPair => k_is)
    (case a_NoRow => k_is)
    (case a_NoText => k_is)
    (case me_NoRow_init => k_is)
    (case a_FIELDS => k_is)
    (case a_PAIR_FIELDS => k_is)
    (case a_LETTERS => k_is)
    (case a_LONGEST_NAME => k_is)
    (case a_LONGEST_TEXT => k_is)
    (case a_NO_SIGN => k_is)
    (case l0 => k_is)
    (case c0 => k_is)
    (case k0 => k_is)
    (case mf0 => k_is)
    (case a1 => k_is)
    (case l1 => k_is)
    (case c1 => k_is)
    (case k1 => k_is)
    (case a2 => k_is)
    (case l2 => k_is)
    (case c2 => k_is)
    (case k2 => k_is)
    (case a3 => k_is)
    (case l3 => k_is)
    (case c3 => k_is)
    (case k3 => k_is)
    (case a4 => k_is)
    (case l4 => k_is)
    (case c4 => k_is)
    (case k4 => k_is)
    (case a5 => k_is)
    (case l5 => k_is)
    (case c5 => k_is)
    (case k5 => k_is)
    (case a6 => k_is)
    (case l6 => k_is)
    (case c6 => k_is)
    (case k6 => k_is)
    (case a7 => k_is)
    (case l7 => k_is)
    (case c7 => k_is)
    (case k7 => k_is)
    (case a8 => k_is)
    (case l8 => k_is)
    (case c8 => k_is)
    (case k8 => k_is)
    (case a9 => k_is)
    (case l9 => k_is)
    (case c9 => k_is)
    (case k9 => k_is)
    (case a10 => k_is)
    (case l10 => k_is)
    (case c10 => k_is)
    (case k10 => k_is)
    (case a11 => k_is)
    (case l11 => k_is)
    (case c11 => k_is)
    (case k11 => k_is)
    (case a12 => k_is)
    (case l12 => k_is)
    (case c12 => k_is)
    (case k12 => k_is)
    (case a13 => k_is)
    (case l13 => k_is)
    (case c13 => k_is)
    (case k13 => k_is)
    (case a14 => k_is)
    (case l14 => k_is)
    (case c14 => k_is)
    (case k14 => k_is)
    (case xi_NoRow => kernel_rfl)
    (case mc_NoRow => k_is)
    (case xs0_NoRow => k_is)
    (case xs1_NoRow => k_is)
    (case xs2_NoRow => k_is)
    (case xs3_NoRow => k_is)
    (case xi4_NoRow => kernel_rfl)
    (case cb0_FolkError => k_is)
    (case cb1_FolkError => k_is)
    (case cb2_FolkError => k_is)
    (case t0_NoRow => k_is)
    (case t1_NoRow => k_is)
    (case t2_NoRow => k_is)
    (case t3_NoRow => k_is)
    (case t4_NoRow => k_is)
    (case t5_NoRow => k_is)
    (case t6_NoRow => k_is)
    (case t7_NoRow => k_is)
    (case h_NoRow_FolkError => kts_exm)
    (case i_NoRow_ValueError => kit_is)
    (case i_NoRow_NoRow => kit_is)
    (case i_NoRow_NoName => kit_is)
    (case i_NoRow_NoText => kit_is)
    (case i_NoRow_NoPair => kit_is)
    (case na_NoRow_row => k_is)
    (case l_FIELDS => k_is)
    (case l_PAIR_FIELDS => k_is)
    (case y_ValueError => k_is)
    (case y_all => k_is)
    (case y_bool => k_is)
    (case y_int => k_is)
    (case y_isinstance => k_is)
    (case y_len => k_is)
    (case y_max => k_is)
    (case y_min => k_is)
    (case y_ord => k_is)
    (case y_range => k_is)
    (case y_tuple => k_is)
