import PyProof.Rows.All
import Wide.All
import OpenK.AllK
import Wide.FinOn
import Lean
import PyProof.EqAt
import PyProof.EqKinds
import PyProof.TupleCall
import KE.KSortTup
import PySem.SetTable
import KE.KDictList
import PyProof.Rows.SeqMore
import PyProof.StrLawsIn
import PyProof.MeetsStr3
import PyProof.Rows.StrSplitMax
import PySem.Challenge.RW_folk_k09_rows_of_facts
set_option Elab.async false
set_option linter.all false
set_option maxRecDepth 100000
/-! THE HAND LAYER, for ints, bools, texts, own classes, LISTS and tuples (index, slices, in, append, pop ..), calls, loops. Paste it whole ahead of your own text; what your proof does not reach may be deleted. -/
namespace L2
open PySem PySem.Spec PyProof.Rows

/-- a key: an int or a str -/
abbrev Key := Sum Int Str
def keyIs : Key → Value → Bool
  | .inl k, v => Value.isInt k v
  | .inr x, v => Value.isStrOf x v
def keyH (w : World) : Key → Int
  | .inl k => hashInt k
  | .inr x => hashStr w x
theorem keyIs_shape : ∀ {k : Key} {v : Value}, keyIs k v = true → (∃ i t, k = Sum.inl i ∧ v = Value.int i t) ∨ (∃ x t, k = Sum.inr x ∧ v = Value.str x t)
  | .inl i, v, h => by
    obtain ⟨t, e⟩ := Value.isInt_shape (k := i) (v := v) h
    exact .inl ⟨i, t, rfl, e⟩
  | .inr x, v, h => by
    obtain ⟨t, e⟩ := Value.isStrOf_shape (x := x) (v := v) h
    exact .inr ⟨x, t, rfl, e⟩
theorem key_ll (a b : Int) : decide ((Sum.inl a : Key) = Sum.inl b) = (a == b) := by
  by_cases e : a = b
  · subst e; simp
  · have h : ¬ (Sum.inl a : Key) = Sum.inl b := fun q => e (Sum.inl.inj q)
    rw [decide_eq_false h]
    exact (beq_eq_false_iff_ne.mpr e).symm
theorem key_rr (a b : Str) : decide ((Sum.inr a : Key) = Sum.inr b) = decide (a = b) := by
  by_cases e : a = b
  · subst e; simp
  · have h : ¬ (Sum.inr a : Key) = Sum.inr b := fun q => e (Sum.inr.inj q)
    rw [decide_eq_false h, decide_eq_false e]
theorem key_lr (a : Int) (b : Str) : decide ((Sum.inl a : Key) = Sum.inr b) = false := decide_eq_false (fun q => nomatch q)
theorem key_rl (a : Str) (b : Int) : decide ((Sum.inr a : Key) = Sum.inl b) = false := decide_eq_false (fun q => nomatch q)

def mixKind (prog : Program) (w : World) : PySem.KeyKind prog w Key where
  is := keyIs
  hash := keyH w
  inj := fun v a b ha hb => by
    rcases keyIs_shape ha with ⟨i, t, rfl, rfl⟩ | ⟨x, t, rfl, rfl⟩
    · rcases keyIs_shape hb with ⟨j, u, rfl, e⟩ | ⟨y, u, rfl, e⟩
      · injection e with e1 _; rw [e1]
      · exact nomatch e
    · rcases keyIs_shape hb with ⟨j, u, rfl, e⟩ | ⟨y, u, rfl, e⟩
      · exact nomatch e
      · injection e with e1 _; rw [e1]
  byValue := fun k v h => by
    rcases keyIs_shape h with ⟨i, t, rfl, rfl⟩ | ⟨x, t, rfl, rfl⟩ <;> rfl
  pyHash := fun hv h => by
    rcases keyIs_shape hv with ⟨i, t, rfl, rfl⟩ | ⟨x, t, rfl, rfl⟩
    · exact wpAny_pyHash_int h
    · exact wpAny_pyHash_str h
  eqBool := fun hu hv h => by
    rcases keyIs_shape hu with ⟨i, t, rfl, rfl⟩ | ⟨x, t, rfl, rfl⟩
    · rcases keyIs_shape hv with ⟨j, u, rfl, rfl⟩ | ⟨y, u, rfl, rfl⟩
      · rw [key_ll] at h; exact wpAny_eqBool_int h
      · rw [key_lr] at h; exact SeqAt.EqAt.int_str i t y u _ _ _ _ h
    · rcases keyIs_shape hv with ⟨j, u, rfl, rfl⟩ | ⟨y, u, rfl, rfl⟩
      · rw [key_rl] at h; exact SeqAt.EqAt.str_int x t j u _ _ _ _ h
      · rw [key_rr] at h; exact wpAny_eqBool_str h
  «strs» := fun k x t v h => by
    rcases keyIs_shape h with ⟨i, u, rfl, e⟩ | ⟨y, u, rfl, e⟩
    · exact nomatch e
    · injection e with e1 _
      subst e1
      cases v <;> rfl

end L2

namespace L2
open PySem PySem.Spec PyProof.Rows

/-- a value, without the heap -/
inductive V where
  | non | bl (b : Bool) | int (i : Int) | str (x : Str) | byt (b : Array UInt8) | flt (b : UInt64) | ref (a : Addr) | ty (n : String)
  deriving DecidableEq

def RelV : V → Value → Prop
  | .non, u => u = Value.none
  | .bl b, u => u = Value.bool b
  | .int i, u => ∃ t, u = Value.int i t
  | .str x, u => ∃ t, u = Value.str x t
  | .byt b, u => ∃ t, u = Value.bytes b t
  | .flt b, u => ∃ t, u = Value.float b t
  | .ref a, u => u = Value.ref a
  | .ty n, u => u = Value.type n

abbrev Vals : List V → List Value → Prop := Paired RelV
theorem Vals.length {xs : List V} {us : List Value} (r : Vals xs us) : xs.length = us.length := Paired.length r
theorem Vals.get : ∀ {xs : List V} {us : List Value} {i : Nat} {x : V}, Vals xs us → xs[i]? = some x → ∃ u, us[i]? = some u ∧ RelV x u
  | _, _, _, _, .nil, e => by simp at e
  | _, _, 0, _, .cons r _, e => by simp at e; subst e; exact ⟨_, rfl, r⟩
  | _, _, i + 1, x, .cons _ t, e => by
    obtain ⟨u, h1, h2⟩ := Vals.get (i := i) (x := x) t (by simpa using e)
    exact ⟨u, by simpa using h1, h2⟩
theorem Vals.set {x : V} {u : Value} (r : RelV x u) : ∀ {xs : List V} {us : List Value} (i : Nat), Vals xs us → Vals (xs.set i x) (us.set i u)
  | _, _, _, .nil => .nil
  | _, _, 0, .cons _ t => .cons r t
  | _, _, i + 1, .cons q t => .cons q (Vals.set r i t)
theorem Vals.append : ∀ {xs ys : List V} {us ws : List Value}, Vals xs us → Vals ys ws → Vals (xs ++ ys) (us ++ ws)
  | _, _, _, _, .nil, s => s
  | _, _, _, _, .cons r t, s => .cons r (Vals.append t s)
theorem Vals.take : ∀ {xs : List V} {us : List Value} (n : Nat), Vals xs us → Vals (xs.take n) (us.take n)
  | _, _, 0, _ => .nil
  | _, _, _ + 1, .nil => .nil
  | _, _, n + 1, .cons r t => .cons r (Vals.take n t)
theorem Vals.drop : ∀ {xs : List V} {us : List Value} (n : Nat), Vals xs us → Vals (xs.drop n) (us.drop n)
  | _, _, 0, r => r
  | _, _, _ + 1, .nil => .nil
  | _, _, n + 1, .cons _ t => Vals.drop n t
def RelO : Option V → Option Value → Prop
  | some v, some u => RelV v u
  | none, none => True
  | _, _ => False
def KV {κ : Type} : List (κ × V) → List (κ × Value) → Prop := Paired fun (p : κ × V) (q : κ × Value) => p.1 = q.1 ∧ RelV p.2 q.2

/-- a key of a dict (00_mix): an int or a text -/
def kV : Key → V
  | .inl i => .int i
  | .inr x => .str x

/-- what stands at a tracked address -/
inductive HO where
  /-- a list -/
  | lst (xs : List V)
  /-- a tuple (never changes) -/
  | tup (xs : List V)
  /-- a dict whose keys are ints and texts; one whose keys are tuples of ints and texts (the empty one is both) -/
  | dK (kvs : List (Key × V)) | dT (kvs : List (List Key × V))
  /-- a set of ints: its members, its size -/
  | set (S : Int → Bool) (n : Nat)
  /-- an instance of the class at C, its dict at dx, its attributes -/
  | ins (C dx : Addr) (fs : List (Str × V))
  /-- the dict of the instance at x -/
  | own (x : Addr)
  /-- the dict of an exception -/
  | xd (fs : List (Str × V))
  /-- a bound method, f of x -/
  | met (f x : Addr)
  /-- a range object lo, lo + 1, .. below hi -/
  | rng (lo hi : Int)
  /-- a thing that is known to the object (the script; a dict while a loop walks it): read, never written while it is so -/
  | frz (o : Obj) (u : HO)
  /-- a code object's table -/
  | tbl (ps : Array Value)
  /-- any other thing, by what is true of its one object (a def of one's own: SetO a S n := HO.ext fun h => ..) -/
  | ext (φ : Heap → Prop)

abbrev Hp := Addr → Option HO
def upd (H : Hp) (a : Addr) (o : HO) : Hp := fun b => if b = a then some o else H b
theorem upd_same {H : Hp} {a : Addr} {o : HO} : upd H a o a = some o := by unfold upd; rw [if_pos rfl]
theorem upd_ne {H : Hp} {a b : Addr} {o : HO} (h : b ≠ a) : upd H a o b = H b := by unfold upd; rw [if_neg h]
theorem ne_of_none {H : Hp} {a b : Addr} {o : HO} (h : H a = some o) (h' : H b = none) : a ≠ b := by
  intro e; subst e; rw [h] at h'; cases h'

section
variable (P : Program) (w : World)
def ObjOk (H : Hp) (h : Heap) (a : Addr) : HO → Prop
  | .lst xs => xs.length ≤ sizeLine ∧ ∃ (its : List Value) (n : Nat), Vals xs its ∧ h.get? a = some { cls := .type "list", data := .seq its.toArray n }
  | .tup xs => xs.length ≤ sizeLine ∧ ∃ its : List Value, Vals xs its ∧ IsTup h a its.toArray
  | .dK kvs => kvs.length ≤ sizeLine ∧ (a == sysModules) = false ∧ ∃ vs, KV kvs vs ∧ h.DictOf (mixKind P w) a vs
  | .dT kvs => kvs.length ≤ sizeLine ∧ (a == sysModules) = false ∧ ∃ xs : List (List Key × Addr × Value),
      Paired (fun (p : List Key × V) (q : List Key × Addr × Value) => p.1 = q.1 ∧ H q.2.1 = some (.tup (p.1.map kV)) ∧ RelV p.2 q.2.2) kvs xs ∧
      ∃ o es ep, h.get? a = some o ∧ o.ExactDict ∧ o.data = .dict es ep ∧ es.toList = xs.map (entryOfKey (tupleKind (mixKind P w))) ∧ (xs.map (·.1)).Nodup
  | .set S n => h.SetOf (intKind P w) a S n
  | .ins C dx fs => H dx = some (.own a) ∧ fs.length ≤ 1000 ∧ dx ≠ a ∧ h.get? a = some (PySem.W.instObj C dx) ∧
      ∃ mA, h.Ns1 dx mA ∧ (∀ f, RelO (fs.lookup f) (mA f)) ∧ PySem.Within mA (fs.map (·.1))
  | .own _ => ∃ o, h.get? a = some o
  | .xd fs => ∃ mA, h.Ns1 a mA ∧ ∀ f, RelO (fs.lookup f) (mA f)
  | .rng lo hi => ∃ t u v, h.get? a = some { cls := .type "range", data := .fields #[.int lo t, .int hi u, .int 1 v] }
  | .frz o u => h.get? a = some o ∧ ObjOk H h a u
  | .tbl ps => h.get? a = some { cls := .none, data := .fields ps }
  | .met f x => h.get? a = some (PySem.W.methodObj (.ref f) (.ref x))
  | .ext φ => φ h ∧ (∃ o, h.get? a = some o) ∧ ∀ h1 h2 : Heap, φ h1 → (∀ o, h1.get? a = some o → h2.get? a = some o) → φ h2
/-- the abstract heap is held -/
def HOk (H : Hp) (h : Heap) : Prop := ∀ a o, H a = some o → ObjOk P w H h a o
end

section
variable {P : Program} {w : World} {H H' : Hp} {h h' : Heap} {a : Addr} {o : HO}
theorem ObjOk.lt (x : ObjOk P w H h a o) : a < h.objs.size := by
  cases o with
  | lst xs => obtain ⟨_, _, _, _, e⟩ := x; exact Heap.lt_size e
  | tup xs => obtain ⟨_, _, _, p⟩ := x; exact p.lt
  | dK kvs => obtain ⟨_, _, _, _, o, _, _, e, _⟩ := x; exact Heap.lt_size e
  | dT kvs => obtain ⟨_, _, _, _, o, _, _, e, _⟩ := x; exact Heap.lt_size e
  | set S n => obtain ⟨o, _, _, _, e, _⟩ := x; exact Heap.lt_size e
  | ins C dx fs => obtain ⟨_, _, _, e, _⟩ := x; exact Heap.lt_size e
  | own y => obtain ⟨_, e⟩ := x; exact Heap.lt_size e
  | xd fs => obtain ⟨_, ⟨_, _, _, e, _⟩, _⟩ := x; exact Heap.lt_size e
  | rng lo hi => obtain ⟨_, _, _, e⟩ := x; exact Heap.lt_size e
  | frz ob u => obtain ⟨e, _⟩ := x; exact Heap.lt_size e
  | tbl ps => exact Heap.lt_size (show h.get? a = some _ from x)
  | met f y => exact Heap.lt_size (show h.get? a = some _ from x)
  | ext φ => obtain ⟨_, ⟨_, e⟩, _⟩ := x; exact Heap.lt_size e
theorem Paired.mapP {α β : Type} {F G : α → β → Prop} : ∀ {l₁ : List α} {l₂ : List β}, Paired F l₁ l₂ → (∀ a b, F a b → G a b) → Paired G l₁ l₂
  | _, _, .nil, _ => .nil
  | _, _, .cons r t, f => .cons (f _ _ r) (Paired.mapP t f)
/-- what an object's description leans on: its own object, its own dict, the tuples -/
theorem ObjOk.stay (x : ObjOk P w H h a o) (k : ∀ b u, (b = a ∨ H b = some (.own a)) → h.get? b = some u → h'.get? b = some u)
    (ho : ∀ b, H b = some (.own a) → H' b = some (.own a)) (ht : ∀ b xs, H b = some (.tup xs) → H' b = some (.tup xs)) : ObjOk P w H' h' a o := by
  induction o with
  | lst xs => obtain ⟨z, its, n, r, e⟩ := x; exact ⟨z, its, n, r, k _ _ (.inl rfl) e⟩
  | tup xs => obtain ⟨z, its, r, ob, e, c⟩ := x; exact ⟨z, its, r, ob, k _ _ (.inl rfl) e, c⟩
  | dK kvs => obtain ⟨z, y, vs, r, ob, es, ep, e, c⟩ := x; exact ⟨z, y, vs, r, ob, es, ep, k _ _ (.inl rfl) e, c⟩
  | dT kvs =>
    obtain ⟨z, y, xs, r, ob, es, ep, e, c⟩ := x
    exact ⟨z, y, xs, Paired.mapP r fun p q z => ⟨z.1, ht _ _ z.2.1, z.2.2⟩, ob, es, ep, k _ _ (.inl rfl) e, c⟩
  | set S n => obtain ⟨ob, es, ep, t, e, c⟩ := x; exact ⟨ob, es, ep, t, k _ _ (.inl rfl) e, c⟩
  | ins C dx fs =>
    obtain ⟨d, z, ne, e, mA, ⟨od, es, ep, e2, c⟩, r⟩ := x
    exact ⟨ho _ d, z, ne, k _ _ (.inl rfl) e, mA, ⟨od, es, ep, k _ _ (.inr d) e2, c⟩, r⟩
  | own y => obtain ⟨ob, e⟩ := x; exact ⟨ob, k _ _ (.inl rfl) e⟩
  | xd fs => obtain ⟨mA, ⟨od, es, ep, e, c⟩, r⟩ := x; exact ⟨mA, ⟨od, es, ep, k _ _ (.inl rfl) e, c⟩, r⟩
  | rng lo hi => obtain ⟨t, u, v, e⟩ := x; exact ⟨t, u, v, k _ _ (.inl rfl) e⟩
  | frz ob u ih => obtain ⟨e, q⟩ := x; exact ⟨k _ _ (.inl rfl) e, ih q⟩
  | tbl ps =>
    have e : h.get? a = some { cls := .none, data := .fields ps } := x
    show h'.get? a = some { cls := .none, data := .fields ps }
    exact k a _ (.inl rfl) e
  | met f y =>
    have e : h.get? a = some (PySem.W.methodObj (.ref f) (.ref y)) := x
    show h'.get? a = some (PySem.W.methodObj (.ref f) (.ref y))
    exact k a _ (.inl rfl) e
  | ext φ => obtain ⟨p, ⟨o, e⟩, st⟩ := x; exact ⟨st _ _ p fun o q => k _ _ (.inl rfl) q, ⟨o, k _ _ (.inl rfl) e⟩, st⟩
theorem HOk.lt (x : HOk P w H h) (e : H a = some o) : a < h.objs.size := (x a o e).lt
theorem HOk.fresh (x : HOk P w H h) (e : h.objs.size ≤ a) : H a = none := by
  cases q : H a with
  | none => rfl
  | some u => exact absurd (Nat.lt_of_lt_of_le (x.lt q) e) (Nat.lt_irrefl _)
/-- every object of the heap is kept -/
theorem HOk.kept (x : HOk P w H h) (k : ∀ b u, h.get? b = some u → h'.get? b = some u) : HOk P w H h' := fun a o e =>
  (x a o e).stay (fun b u _ q => k b u q) (fun _ q => q) fun _ _ q => q
/-- a new object is laid and tracked -/
theorem HOk.laid (x : HOk P w H h) (k : ∀ b u, h.get? b = some u → h'.get? b = some u) (hp : h.objs.size ≤ a) (new : ObjOk P w (upd H a o) h' a o) : HOk P w (upd H a o) h' := fun b u e => by
  have hn := x.fresh hp
  by_cases hb : b = a
  · subst hb; rw [upd_same] at e; cases e; exact new
  · rw [upd_ne hb] at e
    exact (x b u e).stay (fun c v _ q => k c v q) (fun c q => by rw [upd_ne (ne_of_none q hn)]; exact q) fun c xs q => by rw [upd_ne (ne_of_none q hn)]; exact q
end

/-- what may be read as u: it is u, or a known u -/
def Rd (H : Hp) (a : Addr) (u : HO) : Prop := H a = some u ∨ ∃ o, H a = some (.frz o u)
theorem Rd.of {H : Hp} {a : Addr} {u : HO} (h : H a = some u) : Rd H a u := .inl h
theorem Rd.ok {P : Program} {w : World} {H : Hp} {h : Heap} {a : Addr} {u : HO} (r : Rd H a u) (x : HOk P w H h) : ObjOk P w H h a u := by
  rcases r with r | ⟨o, r⟩
  · exact x a u r
  · obtain ⟨_, q⟩ := x a _ r
    exact q
/-- what may be written -/
def Mut : Option HO → Prop
  | some (.lst _) => True
  | some (.dK _) => True
  | some (.dT _) => True
  | some (.set _ _) => True
  | some (.ins _ _ _) => True
  | some (.ext _) => True
  | _ => False
section
variable {P : Program} {w : World} {H : Hp} {h h' : Heap} {x e : Addr} {o' : HO}
/-- the object at e is changed: x itself, or the dict of the instance x -/
theorem HOk.write (ok : HOk P w H h) (mu : Mut (H x)) (he : e = x ∨ H e = some (.own x)) (k : ∀ b u, b ≠ e → h.get? b = some u → h'.get? b = some u) (heo : ∃ u, h'.get? e = some u)
    (new : ObjOk P w (upd H x o') h' x o') : HOk P w (upd H x o') h' := fun b u q => by
  have nown : ∀ c y, H c = some (.own y) → c ≠ x := fun c y r z => by subst z; rw [r] at mu; exact mu
  have ntup : ∀ c xs, H c = some (.tup xs) → c ≠ x := fun c xs r z => by subst z; rw [r] at mu; exact mu
  by_cases hb : b = x
  · subst hb; rw [upd_same] at q; cases q; exact new
  · rw [upd_ne hb] at q
    by_cases hbe : b = e
    · have q' : H b = some (.own x) := by
        rcases he with z | z
        · exact absurd (hbe.trans z) hb
        · rw [hbe]; exact z
      rw [q] at q'; cases q'
      obtain ⟨v, hv⟩ := heo
      exact ⟨v, by rw [hbe]; exact hv⟩
    · refine (ok b u q).stay (fun c v hc r => k c v ?_ r) (fun c r => by rw [upd_ne (nown c b r)]; exact r) fun c xs r => by rw [upd_ne (ntup c xs r)]; exact r
      rcases hc with rfl | hc
      · exact hbe
      · rintro rfl
        rcases he with z | z
        · exact nown c b hc z
        · rw [hc] at z; cases z; exact hb rfl
end

/-! ### kept unless tracked; of the frames at fs (the callers') the slots may change (an exception that passes writes there); of the records at ex (iterators) nothing is said -/
structure Un (fs ex : List Addr) (H H' : Hp) (h h' : Heap) : Prop where
  keep : ∀ b o, h.get? b = some o → H b = none → b ∉ fs → b ∉ ex → h'.get? b = some o
  slot : ∀ b o, h.get? b = some o → H b = none → b ∈ fs → b ∉ ex → ∃ sl, h'.get? b = some { o with slots := sl }
  free : ∀ b o, h.get? b = some o → H b = none → b ∉ ex → H' b = none
  there : ∀ b o, h.get? b = some o → b ∉ ex → ∃ o', h'.get? b = some o'
  tups : ∀ b xs, H b = some (.tup xs) → H' b = some (.tup xs)
  frzs : ∀ b o u, H b = some (.frz o u) → H' b = some (.frz o u)
  tbls : ∀ b ps, H b = some (.tbl ps) → ∃ more, H' b = some (.tbl (ps ++ more))
section
variable {fs fs' ex ex' : List Addr} {H H1 H2 : Hp} {h h1 h2 h' : Heap} {a x e : Addr} {o : HO}
theorem Un.any (u : Un fs ex H H1 h h1) {b : Addr} {ob : Obj} (q : h.get? b = some ob) (n : H b = none) (hx : b ∉ ex) : ∃ sl, h1.get? b = some { ob with slots := sl } := by
  by_cases hb : b ∈ fs
  · exact u.slot b ob q n hb hx
  · exact ⟨ob.slots, u.keep b ob q n hb hx⟩
theorem Un.trans (a : Un fs ex H H1 h h1) (b : Un fs ex H1 H2 h1 h2) : Un fs ex H H2 h h2 where
  keep := fun c ob q n hc hx => b.keep c ob (a.keep c ob q n hc hx) (a.free c ob q n hx) hc hx
  slot := fun c ob q n hc hx => by
    obtain ⟨sl, e1⟩ := a.slot c ob q n hc hx
    obtain ⟨sl', e2⟩ := b.slot c _ e1 (a.free c ob q n hx) hc hx
    exact ⟨sl', e2⟩
  free := fun c ob q n hx => by
    obtain ⟨o', e1⟩ := a.there c ob q hx
    exact b.free c o' e1 (a.free c ob q n hx) hx
  there := fun c ob q hx => by
    obtain ⟨o', e1⟩ := a.there c ob q hx
    exact b.there c o' e1 hx
  tups := fun c xs q => b.tups c xs (a.tups c xs q)
  frzs := fun c ob xs q => b.frzs c ob xs (a.frzs c ob xs q)
  tbls := fun c ps q => by
    obtain ⟨m1, e1⟩ := a.tbls c ps q
    obtain ⟨m2, e2⟩ := b.tbls c _ e1
    exact ⟨m1 ++ m2, by rw [e2, Array.append_assoc]⟩
theorem Un.kept (k : ∀ b u, h.get? b = some u → h'.get? b = some u) : Un fs ex H H h h' :=
  ⟨fun b ob q _ _ _ => k b ob q, fun b ob q _ _ _ => ⟨ob.slots, k b ob q⟩, fun _ _ _ n _ => n, fun b ob q _ => ⟨ob, k b ob q⟩, fun _ _ q => q, fun _ _ _ q => q, fun _ ps q => ⟨#[], by rw [q]; simp⟩⟩
theorem Un.refl : Un fs ex H H h h := Un.kept fun _ _ q => q
theorem Un.laid (k : ∀ b u, h.get? b = some u → h'.get? b = some u) (hp : h.objs.size ≤ a) (hn : H a = none) : Un fs ex H (upd H a o) h h' where
  keep := fun b u q _ _ _ => k b u q
  slot := fun b u q _ _ _ => ⟨u.slots, k b u q⟩
  free := fun b u q n _ => by rw [upd_ne (Nat.ne_of_lt (Nat.lt_of_lt_of_le (Heap.lt_size q) hp))]; exact n
  there := fun b u q _ => ⟨u, k b u q⟩
  tups := fun b xs q => by rw [upd_ne (ne_of_none q hn)]; exact q
  frzs := fun b u xs q => by rw [upd_ne (ne_of_none q hn)]; exact q
  tbls := fun b ps q => ⟨#[], by rw [upd_ne (ne_of_none q hn), q]; simp⟩
theorem Un.write (mu : Mut (H x)) (he : e = x ∨ H e = some (.own x)) (k : ∀ b u, b ≠ e → h.get? b = some u → h'.get? b = some u) (heo : ∃ u, h'.get? e = some u) : Un fs ex H (upd H x o) h h' := by
  have hx : ∀ b, H b = none → b ≠ x := fun b n z => by subst z; rw [n] at mu; exact mu
  have hb : ∀ b, H b = none → b ≠ e := fun b n z => by
    subst z
    rcases he with r | r
    · exact hx b n r
    · rw [n] at r; cases r
  have hm : ∀ b u, H b = some u → ¬ Mut (some u) → b ≠ x := fun b u q nm z => by subst z; rw [q] at mu; exact nm mu
  refine ⟨fun b u q n _ _ => k b u (hb b n) q, fun b u q n _ _ => ⟨u.slots, k b u (hb b n) q⟩, fun b u q n _ => by rw [upd_ne (hx b n)]; exact n, fun b u q _ => ?_,
    fun b xs q => by rw [upd_ne (hm b _ q fun z => z)]; exact q, fun b u xs q => by rw [upd_ne (hm b _ q fun z => z)]; exact q, fun b ps q => ⟨#[], by rw [upd_ne (hm b _ q fun z => z), q]; simp⟩⟩
  by_cases hbe : b = e
  · subst hbe; exact heo
  · exact ⟨u, k b u hbe q⟩
theorem Un.mono (u : Un fs ex H H1 h h1) (hs : ∀ b ∈ fs, b ∈ fs') (hx : ∀ b ∈ ex, b ∈ ex') : Un fs' ex' H H1 h h1 :=
  ⟨fun b ob q n hb he => u.keep b ob q n (fun z => hb (hs b z)) fun z => he (hx b z), fun _ _ q n _ he => u.any q n fun z => he (hx _ z), fun b ob q n he => u.free b ob q n fun z => he (hx b z), fun b ob q he => u.there b ob q fun z => he (hx b z), u.tups, u.frzs, u.tbls⟩
end

/-! ### the heap without what is tracked -/
def trk (h : Heap) (H : Hp) : List Addr := (List.range h.objs.size).filter fun a => (H a).isSome
def hidT (h : Heap) (H : Hp) : Heap := PySem.W.hideAll h (trk h H)
theorem hidT_size (h : Heap) (H : Hp) : (hidT h H).objs.size = h.objs.size := PySem.W.hideAll_size _ _
theorem hidT_get {h : Heap} {H : Hp} {b : Addr} {o : Obj} (e : h.get? b = some o) (n : H b = none) : (hidT h H).get? b = some o :=
  PySem.W.hideAll_get _ e fun hm => by
    have q : (H b).isSome = true := (List.mem_filter.mp hm).2
    rw [n] at q; simp at q
theorem of_hidT {h : Heap} {H : Hp} {b : Addr} {o : Obj} (e : (hidT h H).get? b = some o) : h.get? b = some o ∧ H b = none := by
  have e' : h.get? b = some o := PySem.W.of_hideAll (trk h H) e
  refine ⟨e', ?_⟩
  cases q : H b with
  | none => rfl
  | some x =>
    have hm : b ∈ trk h H := List.mem_filter.mpr ⟨List.mem_range.mpr (Heap.lt_size e'), by simp [q]⟩
    have z : (hidT h H).get? b = none := PySem.W.hideAll_none (trk h H) hm
    rw [z] at e; cases e

/-! ### OpenK's ledger, filled with every new object but one -/
def allNews (g h : Heap) (L : Addr) : List (Addr × Obj) := (List.range h.objs.size).filterMap fun a => if a = L ∨ (g.get? a).isSome = true then none else (h.get? a).map fun o => (a, o)
def rest (g h : Heap) (L d : Addr) : List (Addr × Obj) := (allNews g h L).filter fun p => decide (p.1 ≠ d)
end L2

namespace L2
open PySem PySem.Spec PyProof.Rows

/-- the module's facts, over the base: the heap at the law's entry without what is tracked there -/
structure Mod (K : PySem.W.Frag) (mg : Str → Option Value) (base : Heap) : Prop where
  kin : K.In base
  glob : base.Ns mainGlobals mg
  blt : ∃ mb, base.Ns builtinsNs mb ∧ ∀ x : Str, x ≠ "__name__" → mb x = bootBuiltins x
  nolimit : base.NoLimit

/-- the context: a def's body (or a comprehension's block) running. base: fixed through the whole law; s₀, H₀: the entry; outer: the frames whose slots others may change (a def's callers); stack: all frames that run;
   ex: iterators that were made ahead of the entry and are walked here (a comprehension's); fn: the names whose cells were made at the entry (a def: all; a comprehension's block: its own); calm: not within an except suite; pn: pins that every state bears; xe: what is wanted of an exception that leaves the code -/
structure Cx where
  prog : Program
  w : World
  K : PySem.W.Frag
  mg : Str → Option Value
  base : Heap
  A : Around
  N : List Str
  s₀ : Shared
  H₀ : Hp
  env : Env
  outer : List Env
  stack : List Env
  ex : List Addr
  fn : Str → Bool
  calm : Bool
  pn : List (Addr × Obj)
  xe : Value → Shared → Prop
/-- the callers' frames -/
def frs (l : List Env) : List Addr := l.filterMap (·.frame)
abbrev Cx.fs (X : Cx) : List Addr := frs X.outer

def Vis (sc : Scope) (x : Str) : Prop := sc.names.lookup x = some .local ∨ sc.names.lookup x = some .cell ∨ sc.names.lookup x = some .free
def Loc (sc : Scope) (x : Str) : Prop := sc.names.lookup x = some .local ∨ sc.names.lookup x = some .cell
def Look (env : Env) (h : Heap) (m : Str → Option Value) (x : Str) (u : Value) : Prop :=
  (env.kindOf x = some .local ∧ m x = some u) ∨ ((env.kindOf x = some .cell ∨ env.kindOf x = some .free) ∧ ∃ c, env.cells.lookup x = some c ∧ h.IsCell c (some u))

structure Cx.Ok (X : Cx) : Prop where
  mod : Mod X.K X.mg X.base
  kind : X.env.scope.kind = .function
  glob : X.env.globals = mainGlobals
  blt : X.env.builtins = builtinsNs
  above : X.s₀.heap.objs.size ≤ X.env.locals
  inj : ∀ x y c, X.env.cells.lookup x = some c → X.env.cells.lookup y = some c → x = y
  has : ∀ x, (X.env.kindOf x = some .cell ∨ X.env.kindOf x = some .free) → ∃ c, X.env.cells.lookup x = some c
  cab : ∀ x c, X.fn x = true → X.env.cells.lookup x = some c → X.s₀.heap.objs.size ≤ c
  hd : X.calm = true → X.A.handled = none
  frames : X.A.frames = some X.stack
  stk : X.stack = X.outer ∨ (X.stack = X.env :: X.outer ∧ X.env.frame = some X.env.locals)
  exf : ∀ b ∈ X.ex, b ≠ X.env.locals ∧ ∀ x c, X.env.cells.lookup x = some c → c ≠ b
  bs : ∀ b o, X.base.get? b = some o → X.s₀.heap.get? b = some o ∧ X.H₀ b = none
  bsz : X.base.objs.size ≤ X.s₀.heap.objs.size
  noex : ∀ b o, X.base.get? b = some o → b ∉ X.ex
  exfs : ∀ b ∈ X.ex, b ∉ X.fs
  funs : X.s₀.heap.FunFrames X.base X.outer
  frf : ∀ b ∈ X.fs, X.H₀ b = none

structure Inv (X : Cx) (pins : List (Addr × Obj)) (σ : List (Option V)) (H : Hp) (s : Shared) : Prop where
  ok : X.Ok
  os : s.os = X.s₀.os
  bare : AllBare s.gens
  base : Un X.fs X.ex X.H₀ H X.s₀.heap s.heap
  loc : ∃ m, s.heap.Ns X.env.locals m ∧ ∀ (i : Nat) (x : Str) (v : V), X.N[i]? = some x → σ[i]? = some (some v) → Vis X.env.scope x → ∃ u, RelV v u ∧ Look X.env s.heap m x u
  cell : ∀ x c, X.env.cells.lookup x = some c → ∃ v, s.heap.IsCell c v
  free : H X.env.locals = none
  freeC : ∀ x c, X.env.cells.lookup x = some c → H c = none
  pin : ∀ p ∈ X.pn ++ pins, s.heap.get? p.1 = some p.2 ∧ H p.1 = none ∧ p.1 ≠ X.env.locals ∧ p.1 ∉ X.fs ∧ ∀ v, p.2.data ≠ .cell v
  hok : HOk X.prog X.w H s.heap
  len : σ.length = X.N.length

section
variable {X : Cx} {pins : List (Addr × Obj)} {σ : List (Option V)} {H H' : Hp} {s : Shared} {h' : Heap}

theorem Cx.Ok.nofr (ok : X.Ok) {b : Addr} {o : Obj} (e : X.base.get? b = some o) : b ∉ X.fs := fun hb => by
  have := (ok.funs.mem hb).1
  rw [e] at this; cases this
theorem Inv.bs (I : Inv X pins σ H s) : ∀ b o, X.base.get? b = some o → s.heap.get? b = some o ∧ H b = none := fun b o e =>
  ⟨I.base.keep b o (I.ok.bs b o e).1 (I.ok.bs b o e).2 (I.ok.nofr e) (I.ok.noex b o e), I.base.free b o (I.ok.bs b o e).1 (I.ok.bs b o e).2 (I.ok.noex b o e)⟩
theorem Inv.bk (I : Inv X pins σ H s) : ∀ b o, X.base.get? b = some o → s.heap.get? b = some o := fun b o e => (I.bs b o e).1
theorem Inv.mod (I : Inv X pins σ H s) : Mod X.K X.mg X.base := I.ok.mod
theorem Inv.kIn (I : Inv X pins σ H s) : X.K.In s.heap := I.ok.mod.kin.keeps I.bk
theorem Inv.nolimit (I : Inv X pins σ H s) : s.heap.NoLimit := I.ok.mod.nolimit.keeps I.bk
/-- the frame over the base: for OpenK's rules (K.In X.base is I.mod.kin) -/
theorem Inv.fr (I : Inv X pins σ H s) : ∃ m, Fr X.base X.env.locals s.heap m :=
  let ⟨m, hn, _⟩ := I.loc
  ⟨m, hn, I.bk, Nat.le_trans I.ok.bsz I.ok.above⟩
theorem Inv.lt (I : Inv X pins σ H s) : X.env.locals < s.heap.objs.size := let ⟨_, hn, _⟩ := I.loc; hn.lt
theorem Inv.sz (I : Inv X pins σ H s) : X.s₀.heap.objs.size ≤ s.heap.objs.size := Nat.le_trans I.ok.above (Nat.le_of_lt I.lt)
theorem Inv.nofs (I : Inv X pins σ H s) {a : Addr} (h : s.heap.objs.size ≤ a) : a ∉ X.fs := fun hb => by
  obtain ⟨_, o, ho, _⟩ := I.ok.funs.mem hb
  exact absurd (Nat.lt_of_lt_of_le (Heap.lt_size ho) (Nat.le_trans I.sz h)) (Nat.lt_irrefl _)
theorem Inv.cne (I : Inv X pins σ H s) : ∀ x c, X.env.cells.lookup x = some c → c ≠ X.env.locals := fun x c e z => by
  obtain ⟨v, o, ho, hd⟩ := I.cell x c e
  obtain ⟨m, ⟨o', es, ep, ho', hd', _⟩, _⟩ := I.loc
  rw [z, ho'] at ho; cases ho; rw [hd'] at hd; cases hd
theorem Inv.funs (I : Inv X pins σ H s) : s.heap.FunFrames X.base X.outer := by
  have all : ∀ (l : List Env), (∀ b ∈ frs l, b ∈ X.fs) → X.s₀.heap.FunFrames X.base l → s.heap.FunFrames X.base l := by
    intro l
    induction l with
    | nil => intro _ _; trivial
    | cons env r ih =>
      intro hs hl
      obtain ⟨hk, ⟨L, o, hf, hn, ho, hd⟩, hr⟩ := hl
      have hL : L ∈ X.fs := hs L (by unfold frs; rw [List.filterMap_cons, hf]; exact List.mem_cons_self)
      obtain ⟨sl, e⟩ := I.base.slot L o ho (I.ok.frf L hL) hL fun z => I.ok.exfs L z hL
      exact ⟨hk, ⟨L, _, hf, hn, e, hd⟩, ih (fun b hb => hs b (by unfold frs; rw [List.filterMap_cons, hf]; exact List.mem_cons_of_mem _ hb)) hr⟩
  exact all X.outer (fun _ hb => hb) I.ok.funs

/-- the frames that run, for a call -/
theorem Inv.stack (I : Inv X pins σ H s) : s.heap.FunFrames X.base X.stack := by
  rcases I.ok.stk with e | ⟨e, hf⟩
  · rw [e]; exact I.funs
  · rw [e]
    obtain ⟨m, hn, _⟩ := I.loc
    refine .cons (by rw [I.ok.kind]; decide) hf hn ?_ I.funs
    exact Heap.get?_none_of_le (Nat.le_trans I.ok.bsz I.ok.above)
theorem Inv.stkSub (I : Inv X pins σ H s) : ∀ b ∈ frs X.stack, b ∈ X.env.locals :: X.fs := fun b hb => by
  rcases I.ok.stk with e | ⟨e, hf⟩
  · rw [e] at hb; exact List.mem_cons_of_mem _ hb
  · rw [e] at hb
    unfold frs at hb
    rw [List.filterMap_cons, hf] at hb
    exact hb
theorem Inv.stkFree (I : Inv X pins σ H s) : ∀ b ∈ frs X.stack, H b = none := fun b hb => by
  rcases List.mem_cons.mp (I.stkSub b hb) with e | hb
  · rw [e]; exact I.free
  · obtain ⟨_, o, ho, _⟩ := I.ok.funs.mem hb
    exact I.base.free b o ho (I.ok.frf b hb) fun z => I.ok.exfs b z hb

/-- THE STEP: the untracked objects but the frame and the records at ch are kept (the callers' frames up to slots), the frame's map is kept, the new abstract heap is held -/
theorem Inv.step {g' : Array GenState} {t' : Nat} {d' : Drawn} {ch : List Addr} (I : Inv X pins σ H s)
    (hch : ∀ b ∈ ch, (b ∈ X.ex ∨ X.s₀.heap.objs.size ≤ b) ∧ b ≠ X.env.locals ∧ (∀ x c, X.env.cells.lookup x = some c → c ≠ b) ∧ ∀ p ∈ X.pn ++ pins, p.1 ≠ b)
    (keep : ∀ b o, b ≠ X.env.locals → b ∉ X.fs → b ∉ ch → s.heap.get? b = some o → H b = none → h'.get? b = some o)
    (slot : ∀ b o, b ≠ X.env.locals → b ∈ X.fs → b ∉ ch → s.heap.get? b = some o → H b = none → ∃ sl, h'.get? b = some { o with slots := sl }) (free : ∀ b o, b ∉ ch → s.heap.get? b = some o → H b = none → H' b = none)
    (there : ∀ b o, b ∉ ch → s.heap.get? b = some o → ∃ o', h'.get? b = some o')
    (tups : ∀ b xs, H b = some (.tup xs) → H' b = some (.tup xs)) (frzs : ∀ b o u, H b = some (.frz o u) → H' b = some (.frz o u)) (tbls : ∀ b ps, H b = some (.tbl ps) → ∃ more, H' b = some (.tbl (ps ++ more)))
    (ns : ∀ m, s.heap.Ns X.env.locals m → h'.Ns X.env.locals m) (hok : HOk X.prog X.w H' h') (hg : AllBare g') :
    Inv X pins σ H' { s with heap := h', gens := g', drawn := d', toks := t' } := by
  have neL : ∀ b o, X.s₀.heap.get? b = some o → b ≠ X.env.locals := fun b o e => Nat.ne_of_lt (Nat.lt_of_lt_of_le (Heap.lt_size e) I.ok.above)
  have neC : ∀ b o, X.s₀.heap.get? b = some o → b ∉ X.ex → b ∉ ch := fun b o e hx hb => by
    rcases (hch b hb).1 with z | z
    · exact hx z
    · exact absurd (Nat.lt_of_lt_of_le (Heap.lt_size e) z) (Nat.lt_irrefl _)
  have cellK : ∀ x c, X.env.cells.lookup x = some c → ∀ v, s.heap.IsCell c v → h'.IsCell c v := fun x c e v ⟨o, ho, hd⟩ => by
    have nch : c ∉ ch := fun z => (hch c z).2.2.1 x c e rfl
    by_cases hc : c ∈ X.fs
    · obtain ⟨sl, q⟩ := slot c o (I.cne x c e) hc nch ho (I.freeC x c e)
      exact ⟨_, q, hd⟩
    · exact ⟨o, keep c o (I.cne x c e) hc nch ho (I.freeC x c e), hd⟩
  refine ⟨I.ok, I.os, hg, ⟨fun b o e n hb hx => ?_, fun b o e n hb hx => ?_, fun b o e n hx => ?_, fun b o e hx => ?_, fun b xs e => tups b xs (I.base.tups b xs e), fun b o xs e => frzs b o xs (I.base.frzs b o xs e), fun b ps e => ?_⟩, ?_, fun x c e => ?_, ?_, fun x c e => ?_, fun p hp => ?_, hok, I.len⟩
  · exact keep b o (neL b o e) hb (neC b o e hx) (I.base.keep b o e n hb hx) (I.base.free b o e n hx)
  · obtain ⟨sl, e1⟩ := I.base.slot b o e n hb hx
    obtain ⟨sl', e2⟩ := slot b _ (neL b o e) hb (neC b o e hx) e1 (I.base.free b o e n hx)
    exact ⟨sl', e2⟩
  · obtain ⟨o', e1⟩ := I.base.there b o e hx
    exact free b o' (neC b o e hx) e1 (I.base.free b o e n hx)
  · obtain ⟨o', e1⟩ := I.base.there b o e hx
    exact there b o' (neC b o e hx) e1
  · obtain ⟨m1, e1⟩ := I.base.tbls b ps e
    obtain ⟨m2, e2⟩ := tbls b _ e1
    exact ⟨m1 ++ m2, by rw [e2, Array.append_assoc]⟩
  · obtain ⟨m, hn, hl⟩ := I.loc
    refine ⟨m, ns m hn, fun i x v e1 e2 e3 => ?_⟩
    obtain ⟨u, r, l⟩ := hl i x v e1 e2 e3
    refine ⟨u, r, ?_⟩
    rcases l with l | ⟨k, c, e, z⟩
    · exact .inl l
    · exact .inr ⟨k, c, e, cellK x c e _ z⟩
  · obtain ⟨v, z⟩ := I.cell x c e
    exact ⟨v, cellK x c e v z⟩
  · obtain ⟨m, ⟨o, _, _, ho, _⟩, _⟩ := I.loc
    exact free _ o (fun z => (hch _ z).2.1 rfl) ho I.free
  · obtain ⟨v, o, ho, hd⟩ := I.cell x c e
    exact free c o (fun z => (hch c z).2.2.1 x c e rfl) ho (I.freeC x c e)
  · obtain ⟨e, n, ne, nf, d⟩ := I.pin p hp
    have nch : p.1 ∉ ch := fun z => (hch p.1 z).2.2.2 p hp rfl
    exact ⟨keep p.1 p.2 ne nf nch e n, free p.1 p.2 nch e n, ne, nf, d⟩
/-- .. where the frame's own object is kept too -/
theorem Inv.un {t' : Nat} (I : Inv X pins σ H s) (u : Un X.fs [] H H' s.heap h') (hok : HOk X.prog X.w H' h') : Inv X pins σ H' { s with heap := h', toks := t' } := by
  obtain ⟨m, ⟨o, es, ep, ho, r⟩, _⟩ := id I.loc
  obtain ⟨sl, hL⟩ := u.any ho I.free (by simp)
  exact I.step (g' := s.gens) (d' := s.drawn) (ch := []) (fun _ z => nomatch z) (fun b o _ hb _ e n => u.keep b o e n hb (by simp)) (fun b o _ hb _ e n => u.slot b o e n hb (by simp)) (fun b o _ e n => u.free b o e n (by simp)) (fun b o _ e => u.there b o e (by simp)) u.tups u.frzs u.tbls (fun m' hm => by
    obtain ⟨o', es', ep', ho', r'⟩ := hm
    rw [ho] at ho'; cases ho'
    exact ⟨_, es', ep', hL, r'⟩) hok I.bare
/-- behind a call (or a comprehension's block): the slots of this frame may have changed too, the records at ch may have turned -/
theorem Inv.call {g' : Array GenState} {t' : Nat} {d' : Drawn} {ch : List Addr} (I : Inv X pins σ H s) (u : Un (frs X.stack) ch H H' s.heap h') (hok : HOk X.prog X.w H' h') (hg : AllBare g')
    (hch : ∀ b ∈ ch, (b ∈ X.ex ∨ X.s₀.heap.objs.size ≤ b) ∧ b ≠ X.env.locals ∧ (∀ x c, X.env.cells.lookup x = some c → c ≠ b) ∧ ∀ p ∈ X.pn ++ pins, p.1 ≠ b) :
    Inv X pins σ H' { s with heap := h', gens := g', drawn := d', toks := t' } := by
  obtain ⟨m, ⟨o, es, ep, ho, r⟩, _⟩ := id I.loc
  obtain ⟨sl, hL⟩ := u.any ho I.free fun z => (hch _ z).2.1 rfl
  exact I.step (ch := ch) hch (fun b o hL hb hc e n => u.keep b o e n (fun z => (List.mem_cons.mp (I.stkSub b z)).elim hL hb) hc) (fun b o _ _ hc e n => u.any e n hc) (fun b o hc e n => u.free b o e n hc) (fun b o hc e => u.there b o e hc) u.tups u.frzs u.tbls (fun m' hm => by
    obtain ⟨o', es', ep', ho', r'⟩ := hm
    rw [ho] at ho'; cases ho'
    exact ⟨_, es', ep', hL, r'⟩) hok hg
/-- an untracked record of ours (an iterator) has turned -/
theorem Inv.turned {t' : Nat} {it : Addr} (I : Inv X pins σ H s) (k : ∀ b o, b ≠ it → s.heap.get? b = some o → h'.get? b = some o) (hn : H it = none) (hL : it ≠ X.env.locals)
    (h1 : it ∈ X.ex ∨ X.s₀.heap.objs.size ≤ it) (h2 : ∀ x c, X.env.cells.lookup x = some c → c ≠ it) (h3 : ∀ p ∈ X.pn ++ pins, p.1 ≠ it) : Inv X pins σ H { s with heap := h', toks := t' } := by
  have nit : ∀ b u, H b = some u → b ≠ it := fun b u e z => by rw [z, hn] at e; cases e
  refine I.step (g' := s.gens) (d' := s.drawn) (ch := [it]) (fun b hb => ?_) (fun b o _ _ hc e _ => k b o (fun z => hc (by simp [z])) e) (fun b o _ _ hc e _ => ⟨o.slots, k b o (fun z => hc (by simp [z])) e⟩) (fun _ _ _ _ n => n)
    (fun b o hc e => ⟨o, k b o (fun z => hc (by simp [z])) e⟩) (fun _ _ e => e) (fun _ _ _ e => e) (fun b ps e => ⟨#[], by rw [e]; simp⟩) (fun m hm => ?_) (fun b u e => ?_) I.bare
  · have e : b = it := by simpa using hb
    subst e
    exact ⟨h1, hL, h2, h3⟩
  · obtain ⟨o, es, ep, ho, r⟩ := hm
    exact ⟨o, es, ep, k _ o (Ne.symm hL) ho, r⟩
  · refine (I.hok b u e).stay (fun c v hc q => k c v ?_ q) (fun _ q => q) fun _ _ q => q
    rcases hc with z | z
    · rw [z]; exact nit b u e
    · exact nit c _ z
theorem Inv.tok (I : Inv X pins σ H s) (t : Nat) : Inv X pins σ H { s with toks := t } := I.un (h' := s.heap) (t' := t) Un.refl I.hok
/-- all objects kept -/
theorem Inv.kept {t' : Nat} (I : Inv X pins σ H s) (k : ∀ b u, s.heap.get? b = some u → h'.get? b = some u) : Inv X pins σ H { s with heap := h', toks := t' } := I.un (Un.kept k) (I.hok.kept k)
/-- a new object laid and tracked -/
theorem Inv.laid {a : Addr} {o : HO} {t' : Nat} (I : Inv X pins σ H s) (k : ∀ b u, s.heap.get? b = some u → h'.get? b = some u) (hp : s.heap.objs.size ≤ a) (new : ObjOk X.prog X.w (upd H a o) h' a o) :
    Inv X pins σ (upd H a o) { s with heap := h', toks := t' } := I.un (Un.laid k hp (I.hok.fresh hp)) (I.hok.laid k hp new)
/-- an object written -/
theorem Inv.write {x e : Addr} {o : HO} {t' : Nat} (I : Inv X pins σ H s) (mu : Mut (H x)) (he : e = x ∨ H e = some (.own x)) (k : ∀ b u, b ≠ e → s.heap.get? b = some u → h'.get? b = some u) (heo : ∃ u, h'.get? e = some u)
    (new : ObjOk X.prog X.w (upd H x o) h' x o) : Inv X pins σ (upd H x o) { s with heap := h', toks := t' } := I.un (Un.write mu he k heo) (I.hok.write mu he k heo new)
/-- forgetting slots, pins -/
theorem Inv.weak {σ' : List (Option V)} (I : Inv X pins σ H s) (hl : σ'.length = σ.length) (w : ∀ (i : Nat) v, σ'[i]? = some (some v) → σ[i]? = some (some v)) : Inv X pins σ' H s :=
  ⟨I.ok, I.os, I.bare, I.base, let ⟨m, hn, hl'⟩ := I.loc; ⟨m, hn, fun i x v e1 e2 e3 => hl' i x v e1 (w i v e2) e3⟩, I.cell, I.free, I.freeC, I.pin, I.hok, hl.trans I.len⟩
theorem Inv.pins_of {pins' : List (Addr × Obj)} (I : Inv X pins σ H s) (h : ∀ p ∈ pins', s.heap.get? p.1 = some p.2 ∧ H p.1 = none ∧ p.1 ≠ X.env.locals ∧ p.1 ∉ X.fs ∧ ∀ v, p.2.data ≠ .cell v) : Inv X pins' σ H s :=
  ⟨I.ok, I.os, I.bare, I.base, I.loc, I.cell, I.free, I.freeC, fun p hp => (List.mem_append.mp hp).elim (fun z => I.pin p (List.mem_append_left _ z)) (h p), I.hok, I.len⟩

theorem nodup_ix {N : List Str} (hN : N.Nodup) {i j : Nat} {x : Str} (a : N[i]? = some x) (b : N[j]? = some x) : i = j := by
  obtain ⟨h1, e1⟩ := List.getElem?_eq_some_iff.mp a
  obtain ⟨h2, e2⟩ := List.getElem?_eq_some_iff.mp b
  exact (List.getElem_inj hN).mp (e1.trans e2.symm)

/-- a name is stored; what changed -/
theorem store_ok2 {M : Model} {A : Around} {E : Value → Shared → Prop} {i : Nat} {x : Str} {v : V} {u : Value} {Q : Unit → Shared → Prop} (I : Inv X pins σ H s) (hN : X.N.Nodup) (hi : X.N[i]? = some x) (hx : Loc X.env.scope x) (r : RelV v u)
    (h : ∀ s', Inv X pins (σ.set i (some v)) H s' → (∃ a, Heap.SameBut a s.heap s'.heap ∧ (a = X.env.locals ∨ X.env.cells.lookup x = some a)) → Q () s') (hf : X.fn x = true ∨ X.env.scope.names.lookup x = some .local := by first | exact .inl rfl | exact .inr rfl | assumption) : wpAny M A (storeName X.env x u) Q E s := by
  obtain ⟨m, hn, hl⟩ := id I.loc
  have hcls : (X.env.scope.kind == .class || (X.env.scope.kind == .module && X.env.locals != X.env.globals)) = false := by rw [I.ok.kind]; rfl
  have hiσ : i < σ.length := by rw [I.len]; exact (List.getElem?_eq_some_iff.mp hi).1
  have cne := I.cne
  have tracked : ∀ {a : Addr} {h' : Heap}, (∃ o, s.heap.get? a = some o ∧ H a = none) → Heap.SameBut a s.heap h' → HOk X.prog X.w H h' := fun {a h'} ha hs b ob e => by
    obtain ⟨_, _, hfree⟩ := ha
    refine (I.hok b ob e).stay (fun c w' hc q => (hs.2 c ?_).trans q) (fun _ q => q) fun _ _ q => q
    rintro rfl
    rcases hc with rfl | hc
    · rw [hfree] at e; cases e
    · rw [hfree] at hc; cases hc
  rcases hx with hk | hk
  · refine wpAny_storeName_local hk hn (fun h' hn' hs => ?_) hcls
    obtain ⟨oL, _, _, hoL, _⟩ := id hn
    refine h _ ⟨I.ok, I.os, I.bare, ⟨fun b o e n hb hx => ?_, fun b o e n hb hx => ?_, I.base.free, fun b o e hx => ?_, I.base.tups, I.base.frzs, I.base.tbls⟩, ⟨_, hn', fun j y v' e1 e2 e3 => ?_⟩, fun y c e => ?_, I.free, I.freeC, fun p hp => ?_, tracked ⟨oL, hoL, I.free⟩ hs, by simpa using I.len⟩ ⟨_, hs, .inl rfl⟩
    · exact (hs.2 b (Nat.ne_of_lt (Nat.lt_of_lt_of_le (Heap.lt_size e) I.ok.above))).trans (I.base.keep b o e n hb hx)
    · obtain ⟨sl, e1⟩ := I.base.slot b o e n hb hx
      exact ⟨sl, (hs.2 b (Nat.ne_of_lt (Nat.lt_of_lt_of_le (Heap.lt_size e) I.ok.above))).trans e1⟩
    · obtain ⟨o', e1⟩ := I.base.there b o e hx
      exact ⟨o', (hs.2 b (Nat.ne_of_lt (Nat.lt_of_lt_of_le (Heap.lt_size e) I.ok.above))).trans e1⟩
    · by_cases hj : j = i
      · subst hj
        rw [hi] at e1; cases e1
        rw [List.getElem?_set_self hiσ] at e2
        cases e2
        exact ⟨u, r, .inl ⟨hk, by simp⟩⟩
      · rw [List.getElem?_set_ne (Ne.symm hj)] at e2
        obtain ⟨u', r', q⟩ := hl j y v' e1 e2 e3
        refine ⟨u', r', ?_⟩
        rcases q with ⟨k, e⟩ | ⟨k, c, e, z⟩
        · refine .inl ⟨k, ?_⟩
          have : y ≠ x := fun e => hj (nodup_ix hN e1 (e ▸ hi))
          simp [this, e]
        · exact .inr ⟨k, c, e, z.sameBut hs (cne y c e)⟩
    · obtain ⟨w', z⟩ := I.cell y c e
      exact ⟨w', z.sameBut hs (cne y c e)⟩
    · obtain ⟨e, n, ne, nf, d⟩ := I.pin p hp
      exact ⟨(hs.2 p.1 ne).trans e, n, ne, nf, d⟩
  · have hfn : X.fn x = true := by
      rcases hf with z | z
      · exact z
      · rw [z] at hk; cases hk
    obtain ⟨c, hc⟩ := I.ok.has x (.inl hk)
    obtain ⟨w', z⟩ := I.cell x c hc
    refine wpAny_storeName_cell I.ok.kind hk hc z (fun h' hc' hs => ?_)
    obtain ⟨oc, hoc, hocd⟩ := id z
    refine h { s with heap := h' } ⟨I.ok, I.os, I.bare, ⟨fun b o e n hb hx => ?_, fun b o e n hb hx => ?_, I.base.free, fun b o e hx => ?_, I.base.tups, I.base.frzs, I.base.tbls⟩, ⟨m, hn.sameBut hs (Ne.symm (cne x c hc)), fun j y v' e1 e2 e3 => ?_⟩, fun y c' e => ?_, I.free, I.freeC, fun p hp => ?_, tracked ⟨oc, hoc, I.freeC x c hc⟩ hs, by simpa using I.len⟩ ⟨c, hs, .inr hc⟩
    · exact (hs.2 b (Nat.ne_of_lt (Nat.lt_of_lt_of_le (Heap.lt_size e) (I.ok.cab x c hfn hc)))).trans (I.base.keep b o e n hb hx)
    · obtain ⟨sl, e1⟩ := I.base.slot b o e n hb hx
      exact ⟨sl, (hs.2 b (Nat.ne_of_lt (Nat.lt_of_lt_of_le (Heap.lt_size e) (I.ok.cab x c hfn hc)))).trans e1⟩
    · obtain ⟨o', e1⟩ := I.base.there b o e hx
      exact ⟨o', (hs.2 b (Nat.ne_of_lt (Nat.lt_of_lt_of_le (Heap.lt_size e) (I.ok.cab x c hfn hc)))).trans e1⟩
    · by_cases hj : j = i
      · subst hj
        rw [hi] at e1; cases e1
        rw [List.getElem?_set_self hiσ] at e2
        cases e2
        exact ⟨u, r, .inr ⟨.inl hk, c, hc, hc'⟩⟩
      · rw [List.getElem?_set_ne (Ne.symm hj)] at e2
        obtain ⟨u', r', q⟩ := hl j y v' e1 e2 e3
        refine ⟨u', r', ?_⟩
        rcases q with q | ⟨k, c', e, z'⟩
        · exact .inl q
        · refine .inr ⟨k, c', e, z'.sameBut hs ?_⟩
          rintro rfl
          exact hj (nodup_ix hN e1 (I.ok.inj _ _ _ e hc ▸ hi))
    · by_cases hcc : c' = c
      · subst hcc; exact ⟨_, hc'⟩
      · obtain ⟨w2, z2⟩ := I.cell y c' e
        exact ⟨w2, z2.sameBut hs hcc⟩
    · obtain ⟨e, n, ne, nf, d⟩ := I.pin p hp
      refine ⟨(hs.2 p.1 ?_).trans e, n, ne, nf, d⟩
      intro q
      rw [q, hoc] at e
      have q' : oc = p.2 := Option.some.inj e
      exact d w' (by rw [← q']; exact hocd)
theorem store_ok {M : Model} {A : Around} {E : Value → Shared → Prop} {i : Nat} {x : Str} {v : V} {u : Value} {Q : Unit → Shared → Prop} (I : Inv X pins σ H s) (hN : X.N.Nodup) (hi : X.N[i]? = some x) (hx : Loc X.env.scope x) (r : RelV v u)
    (h : ∀ s', Inv X pins (σ.set i (some v)) H s' → Q () s') (hf : X.fn x = true ∨ X.env.scope.names.lookup x = some .local := by first | exact .inl rfl | exact .inr rfl | assumption) : wpAny M A (storeName X.env x u) Q E s :=
  store_ok2 I hN hi hx r (fun s' I' _ => h s' I') hf
/-- behind a call or a block, the state as it is -/
theorem Inv.call' {s' : Shared} {ch : List Addr} (I : Inv X pins σ H s) (ho : s'.os = s.os) (u : Un (frs X.stack) ch H H' s.heap s'.heap) (hok : HOk X.prog X.w H' s'.heap) (hg : AllBare s'.gens)
    (hch : ∀ b ∈ ch, (b ∈ X.ex ∨ X.s₀.heap.objs.size ≤ b) ∧ b ≠ X.env.locals ∧ (∀ x c, X.env.cells.lookup x = some c → c ≠ b) ∧ ∀ p ∈ X.pn ++ pins, p.1 ≠ b) : Inv X pins σ H' s' := by
  obtain ⟨h', g', d', t', o'⟩ := s'
  have e : o' = s.os := ho
  subst e
  exact I.call (g' := g') (t' := t') (d' := d') u hok hg hch
end

/-! ### the judgements -/
/-- an exception: its class, its own dict's address (where it has one), the abstract heap behind it -/
abbrev XK := Value → Option Addr → Hp → Prop
abbrev St := List (Option V)
abbrev VK := V → Hp → Prop
/-- an expression's reading; a test's; an argument list's -/
abbrev TE := St → Hp → VK → Prop
abbrev TT := St → Hp → (Bool → Hp → Prop) → Prop
abbrev TA := St → Hp → (List V → Hp → Prop) → Prop
/-- what is wanted behind a statement -/
structure Ends where
  nx : St → Hp → Prop
  rt : VK
  bk : St → Hp → Prop := fun _ _ => False
  ct : St → Hp → Prop := fun _ _ => False
abbrev TS := Ends → St → Hp → Prop

def EP (X : Cx) (pins : List (Addr × Obj)) (σ : St) (Q : VK) (u : Value) (s' : Shared) : Prop := ∃ v H', Inv X pins σ H' s' ∧ RelV v u ∧ Q v H'
def TP (X : Cx) (pins : List (Addr × Obj)) (σ : St) (Q : Bool → Hp → Prop) (b : Bool) (s' : Shared) : Prop := ∃ H', Inv X pins σ H' s' ∧ Q b H'
def AP (X : Cx) (pins : List (Addr × Obj)) (σ : St) (Q : List V → Hp → Prop) (us : List Value) (s' : Shared) : Prop := ∃ vs H', Inv X pins σ H' s' ∧ Vals vs us ∧ Q vs H'
def SP (X : Cx) (pins : List (Addr × Obj)) (D : Ends) (f : Flow) (s' : Shared) : Prop :=
  match f with
  | .next => ∃ σ' H', Inv X pins σ' H' s' ∧ D.nx σ' H'
  | .brk => ∃ σ' H', Inv X pins σ' H' s' ∧ D.bk σ' H'
  | .cont => ∃ σ' H', Inv X pins σ' H' s' ∧ D.ct σ' H'
  | .ret u => ∃ v σ' H', Inv X pins σ' H' s' ∧ RelV v u ∧ D.rt v H'

def PE (X : Cx) (e : Expr) (t : TE) : Prop :=
  ∀ (pins : List (Addr × Obj)) (s : Shared) (σ : St) (H : Hp) (Q : VK), Inv X pins σ H s → t σ H Q → wpAny (model X.prog X.w) X.A (eval e X.env) (EP X pins σ Q) X.xe s
def PT (X : Cx) (e : Expr) (t : TT) : Prop :=
  ∀ (pins : List (Addr × Obj)) (s : Shared) (σ : St) (H : Hp) (Q : Bool → Hp → Prop), Inv X pins σ H s → t σ H Q → wpAny (model X.prog X.w) X.A (isTrue e X.env (eval e X.env)) (TP X pins σ Q) X.xe s
/-- a test whatever its 'whole' is (and, or) -/
def PW (X : Cx) (e : Expr) (t : TT) : Prop :=
  ∀ (whole : Sem Value) (pins : List (Addr × Obj)) (s : Shared) (σ : St) (H : Hp) (Q : Bool → Hp → Prop), Inv X pins σ H s → t σ H Q → wpAny (model X.prog X.w) X.A (isTrue e X.env whole) (TP X pins σ Q) X.xe s
theorem PW.pt {X : Cx} {e : Expr} {t : TT} (h : PW X e t) : PT X e t := h _
/-- an argument list (no star), from the left -/
def PA (X : Cx) (es : List Expr) (t : TA) : Prop :=
  ∀ (pos : Pos) (pins : List (Addr × Obj)) (s : Shared) (σ : St) (H : Hp) (Q : List V → Hp → Prop), Inv X pins σ H s → t σ H Q → wpAny (model X.prog X.w) X.A (spliced (backTo pos (starEach es X.env))) (AP X pins σ Q) X.xe s
def PS (X : Cx) (st : Stmt) (t : TS) : Prop :=
  ∀ (pins : List (Addr × Obj)) (s : Shared) (σ : St) (H : Hp) (D : Ends), Inv X pins σ H s → t D σ H → wpAny (model X.prog X.w) X.A (exec st X.env) (SP X pins D) X.xe s
def PSs (X : Cx) (st : List Stmt) (t : TS) : Prop :=
  ∀ (pins : List (Addr × Obj)) (s : Shared) (σ : St) (H : Hp) (D : Ends), Inv X pins σ H s → t D σ H → wpAny (model X.prog X.w) X.A (execs st X.env) (SP X pins D) X.xe s
/-- weaken the end -/
theorem thn {α : Type} {t : Sem α} {Q Q' : α → Shared → Prop} {M : Model} {A : Around} {E : Value → Shared → Prop} {s : Shared} (h : wpAny M A t Q E s) (hQ : ∀ a s, Q a s → Q' a s) : wpAny M A t Q' E s := wpAny_mono h hQ fun _ _ x => x
end L2

namespace L2
open PySem PySem.Spec PyProof.Rows
section
variable {X : Cx}

/-! ### names and constants -/
def tVar (i : Nat) : TE := fun σ H Q => ∃ v, σ[i]? = some (some v) ∧ Q v H
def tC (v : V) : TE := fun _ H Q => Q v H
theorem pe_var {i : Nat} {x : Str} {pos : Pos} (hN : X.N[i]? = some x) (hv : Vis X.env.scope x) (hd : (x == ("__debug__" : Str)) = false := by decide) (hcd : (x == ("__classdict__" : Str)) = false := by decide) : PE X (.Name x pos) (tVar i) := by
  intro pins s σ H Q I h
  obtain ⟨v, e, h⟩ := h
  obtain ⟨m, hn, hl⟩ := I.loc
  obtain ⟨u, r, l⟩ := hl i x v hN e hv
  have fin : EP X pins σ Q u s := ⟨v, H, I, r, h⟩
  rcases l with ⟨hk, hm⟩ | ⟨hk, c, hc, hcell⟩
  · exact wpAny_Name (wpAny_loadName_local I.ok.kind hk hn hm fin) hd
  · rcases hk with hk | hk
    · exact wpAny_Name (wpAny_loadName_cell I.ok.kind hk hc hcell fin) hd
    · exact wpAny_Name (wpAny_loadName_free I.ok.kind hk hc hcell fin hcd) hd
theorem pe_int {i j pos} : PE X (.Constant (.int i) j pos) (tC (.int i)) := fun _ _ _ H _ I h => wpAny_Constant_int ⟨.int i, H, I.tok _, ⟨_, rfl⟩, h⟩
theorem pe_bl {b j pos} : PE X (.Constant (.bool b) j pos) (tC (.bl b)) := fun _ _ _ H _ I h => Constant_bool ⟨.bl b, H, I, rfl, h⟩
theorem pe_str {x j pos} : PE X (.Constant (.str x) j pos) (tC (.str x)) := fun _ _ _ H _ I h => Calls.Constant_str ⟨.str x, H, I.tok _, ⟨_, rfl⟩, h⟩

/-- a global name of the def -/
def Gl (X : Cx) (x : Str) : Prop := X.env.kindOf x = some .globalImplicit
theorem ld_glob {E : Value → Shared → Prop} {pins : List (Addr × Obj)} {s : Shared} {σ : St} {H : Hp} {x : Str} {u : Value} {pos : Pos} {Q : Value → Shared → Prop} (I : Inv X pins σ H s) (hg : Gl X x) (hm : X.mg x = some u) (h : Q u s)
    (hd : (x == ("__debug__" : Str)) = false := by decide) : wpAny (model X.prog X.w) X.A (eval (.Name x pos) X.env) Q E s :=
  Calls.Name_function_global I.ok.kind hg (Calls.loadGlobal_global (by rw [I.ok.glob]; exact I.mod.glob.keeps I.bk) hm h) hd
theorem ld_blt {E : Value → Shared → Prop} {pins : List (Addr × Obj)} {s : Shared} {σ : St} {H : Hp} {x : Str} {u : Value} {pos : Pos} {Q : Value → Shared → Prop} (I : Inv X pins σ H s) (hg : Gl X x) (hm : X.mg x = none) (hv : bootBuiltins x = some u) (h : Q u s)
    (hn : x ≠ "__name__" := by decide) (hd : (x == ("__debug__" : Str)) = false := by decide) : wpAny (model X.prog X.w) X.A (eval (.Name x pos) X.env) Q E s := by
  obtain ⟨mb, h1, h2⟩ := I.mod.blt
  exact Calls.Name_function_global I.ok.kind hg (Calls.loadGlobal_builtin (by rw [I.ok.glob]; exact I.mod.glob.keeps I.bk) hm (by rw [I.ok.blt]; exact h1.keeps I.bk) ((h2 x hn).trans hv) h) hd
/-- a module's constant, a class, a function, as a value -/
theorem pe_glob {x : Str} {v : V} {u : Value} {pos : Pos} (hg : Gl X x) (hm : X.mg x = some u) (r : RelV v u) (hd : (x == ("__debug__" : Str)) = false := by decide) : PE X (.Name x pos) (tC v) :=
  fun _ _ _ H _ I h => ld_glob I hg hm ⟨v, H, I, r, h⟩ hd
theorem pe_bltn {x : Str} {v : V} {u : Value} {pos : Pos} (hg : Gl X x) (hm : X.mg x = none) (hv : bootBuiltins x = some u) (r : RelV v u) (hn : x ≠ "__name__" := by decide) (hd : (x == ("__debug__" : Str)) = false := by decide) : PE X (.Name x pos) (tC v) :=
  fun _ _ _ H _ I h => ld_blt I hg hm hv ⟨v, H, I, r, h⟩ hn hd

/-! ### arithmetic -/
variable {a b : Expr} {ta tb : TE} {pos : Pos}
/-! ### comparisons -/
/-- a comparison as a value, as a test -/
def tB (t : TE) : TT := fun σ H Q => t σ H fun x H1 => ∃ c, x = .bl c ∧ Q c H1
/-- an expression whose value is a bool, as a test -/
theorem pt_val {e : Expr} {t : TE} (h : PE X e t) (he : ∀ whole, isTrue e X.env whole = (do let v ← whole; standAt e.pos; holding [v] (truthy v)) := by intro _; rfl) : PT X e (tB t) := by
  intro pins s σ H Q I hw
  refine isTrue_plain (thn (h pins s σ H _ I hw) fun v s1 ⟨x, H1, I1, r1, q1⟩ => ?_) (he _)
  obtain ⟨d, rfl, q⟩ := q1
  cases r1
  exact wpAny_truthy_bool ⟨H1, I1, q⟩

/-! ### and, or, not -/
variable {tA tB' : TT} {rest : List Expr}
def tAnd (t u : TT) : TT := fun σ H Q => t σ H fun c H1 => if c = true then u σ H1 Q else Q false H1
def tOr (t u : TT) : TT := fun σ H Q => t σ H fun c H1 => if c = true then Q true H1 else u σ H1 Q
def tNot (t : TT) : TT := fun σ H Q => t σ H fun c H1 => Q (!c) H1
theorem pw_and1 (ha : PT X a tA) : PW X (.BoolOp .And [a] pos) tA := by
  intro wh pins s σ H Q I h
  refine isTrue_and (thn (ha pins s σ H Q I h) fun c s1 e => ?_)
  cases c with
  | true => exact isTrue_and_nil e
  | false => exact e
theorem pw_or1 (ha : PT X a tA) : PW X (.BoolOp .Or [a] pos) tA := by
  intro wh pins s σ H Q I h
  refine isTrue_or (thn (ha pins s σ H Q I h) fun c s1 e => ?_)
  cases c with
  | false => exact isTrue_or_nil e
  | true => exact e
theorem pw_and (ha : PT X a tA) (hb : PW X (.BoolOp .And (b :: rest) pos) tB') : PW X (.BoolOp .And (a :: b :: rest) pos) (tAnd tA tB') := by
  intro wh pins s σ H Q I h
  refine isTrue_and (thn (ha pins s σ H _ I h) fun c s1 ⟨H1, I1, q1⟩ => ?_)
  cases c with
  | true => exact hb wh pins s1 σ H1 Q I1 q1
  | false => exact ⟨H1, I1, q1⟩
theorem pw_or (ha : PT X a tA) (hb : PW X (.BoolOp .Or (b :: rest) pos) tB') : PW X (.BoolOp .Or (a :: b :: rest) pos) (tOr tA tB') := by
  intro wh pins s σ H Q I h
  refine isTrue_or (thn (ha pins s σ H _ I h) fun c s1 ⟨H1, I1, q1⟩ => ?_)
  cases c with
  | true => exact ⟨H1, I1, q1⟩
  | false => exact hb wh pins s1 σ H1 Q I1 q1
theorem pt_not (ha : PT X a tA) : PT X (.UnaryOp .Not a pos) (tNot tA) := by
  intro pins s σ H Q I h
  exact isTrue_not (ha pins s σ H (fun c H1 => Q (!c) H1) I h)
/-- .. as values (bools) -/
def tAndV (ta tb : TE) : TE := fun σ H Q => ta σ H fun x H1 => ∃ c, x = .bl c ∧ if c = true then tb σ H1 Q else Q (.bl false) H1
theorem pe_one {op} {t : TE} (h : PE X a t) : PE X (.BoolOp op [a] pos) t := fun pins s σ H Q I hw => BoolOp_one (h pins s σ H Q I hw)
theorem pe_and (ha : PE X a ta) (hb : PE X (.BoolOp .And (b :: rest) pos) tb) : PE X (.BoolOp .And (a :: b :: rest) pos) (tAndV ta tb) := by
  intro pins s σ H Q I h
  refine BoolOp_and (thn (ha pins s σ H _ I h) fun v s1 ⟨x, H1, I1, r1, q1⟩ => ?_)
  obtain ⟨c, rfl, q1⟩ := q1
  cases r1
  refine wpAny_truthy_bool ?_
  cases c with
  | true => exact hb pins s1 σ H1 Q I1 q1
  | false => exact ⟨.bl false, H1, I1, rfl, q1⟩
end
end L2

namespace L2
open PySem PySem.Spec PyProof.Rows

/-! ### a list, a tuple that is read: tracked, frozen, or an object of the module -/
def SqL (K : PySem.W.Frag) (H : Hp) (a : Addr) (xs : List V) : Prop :=
  Rd H a (.lst xs) ∨
    ∃ (o : Obj) (its : Array Value) (n : Nat), K.lookup a = some o ∧ o.cls = .type "list" ∧ o.dict = none ∧ o.data = .seq its n ∧ its.size ≤ sizeLine ∧ Vals xs its.toList
def SqT (K : PySem.W.Frag) (H : Hp) (a : Addr) (xs : List V) : Prop :=
  Rd H a (.tup xs) ∨
    ∃ (o : Obj) (its : Array Value) (n : Nat), K.lookup a = some o ∧ o.cls = .type "tuple" ∧ o.data = .seq its n ∧ its.size ≤ sizeLine ∧ Vals xs its.toList
def absV : Value → Option V
  | .none => some .non
  | .bool b => some (.bl b)
  | .int i _ => some (.int i)
  | .str x _ => some (.str x)
  | .bytes b _ => some (.byt b)
  | .float b _ => some (.flt b)
  | .ref a => some (.ref a)
  | .type n => some (.ty n)
  | _ => none
theorem RelV.abs {x : V} {u : Value} (r : RelV x u) : absV u = some x := by
  cases x with
  | non => cases r; rfl
  | bl _ => cases r; rfl
  | int _ => obtain ⟨t, rfl⟩ := r; rfl
  | str _ => obtain ⟨t, rfl⟩ := r; rfl
  | byt _ => obtain ⟨t, rfl⟩ := r; rfl
  | flt _ => obtain ⟨t, rfl⟩ := r; rfl
  | ref _ => cases r; rfl
  | ty _ => cases r; rfl
theorem RelV.inj {x y : V} {u : Value} (r : RelV x u) (q : RelV y u) : x = y := Option.some.inj (r.abs.symm.trans q.abs)
theorem Vals.inj : ∀ {xs ys : List V} {us : List Value}, Vals xs us → Vals ys us → xs = ys
  | _, _, _, .nil, .nil => rfl
  | _, _, _, .cons r t, .cons r' t' => by rw [r.inj r', Vals.inj t t']
section
variable {X : Cx} {pins : List (Addr × Obj)} {σ : St} {H : Hp} {s : Shared} {a : Addr} {xs ys : List V}
theorem SqL.of {K : PySem.W.Frag} (h : H a = some (.lst xs)) : SqL K H a xs := .inl (.inl h)
theorem SqT.of {K : PySem.W.Frag} (h : H a = some (.tup xs)) : SqT K H a xs := .inl (.inl h)
theorem Inv.list (I : Inv X pins σ H s) (h : SqL X.K H a xs) : ∃ its : List Value, Vals xs its ∧ PlainL s.heap a its.toArray ∧ xs.length ≤ sizeLine := by
  rcases h with h | ⟨o, its, n, hk, hc, hd, hs, hz, r⟩
  · obtain ⟨z, its, n, r, e⟩ := h.ok I.hok
    exact ⟨its, r, ⟨_, n, e, rfl, rfl, rfl⟩, z⟩
  · refine ⟨its.toList, r, ⟨o, n, I.kIn a o hk, hc, hd, by simpa using hs⟩, ?_⟩
    have e := r.length
    simp only [Array.length_toList] at e
    omega
theorem Inv.tuple (I : Inv X pins σ H s) (h : SqT X.K H a xs) : ∃ its : List Value, Vals xs its ∧ IsTup s.heap a its.toArray ∧ xs.length ≤ sizeLine := by
  rcases h with h | ⟨o, its, n, hk, hc, hs, hz, r⟩
  · obtain ⟨z, its, r, p⟩ := h.ok I.hok
    exact ⟨its, r, p, z⟩
  · refine ⟨its.toList, r, ⟨o, I.kIn a o hk, hc, n, by simpa using hs⟩, ?_⟩
    have e := r.length
    simp only [Array.length_toList] at e
    omega
theorem Inv.list_inj (I : Inv X pins σ H s) (h : SqL X.K H a xs) (h' : SqL X.K H a ys) : xs = ys := by
  obtain ⟨its, r, ⟨o, n, e, _, _, d⟩, _⟩ := I.list h
  obtain ⟨its', r', ⟨o', n', e', _, _, d'⟩, _⟩ := I.list h'
  rw [e] at e'; cases e'
  rw [d] at d'
  injection d' with d1 _
  have : its = its' := by simpa using congrArg Array.toList d1
  subst this
  exact r.inj r'
theorem Inv.tuple_inj (I : Inv X pins σ H s) (h : SqT X.K H a xs) (h' : SqT X.K H a ys) : xs = ys := by
  obtain ⟨its, r, ⟨o, e, _, n, d⟩, _⟩ := I.tuple h
  obtain ⟨its', r', ⟨o', e', _, n', d'⟩, _⟩ := I.tuple h'
  rw [e] at e'; cases e'
  rw [d] at d'
  injection d' with d1 _
  have : its = its' := by simpa using congrArg Array.toList d1
  subst this
  exact r.inj r'
end

/-! ### another wish about exceptions -/
abbrev Cx.wish (X : Cx) (E : Value → Shared → Prop) : Cx := { X with xe := E }
/-- no exception leaves -/
abbrev Cx.nox (X : Cx) : Cx := X.wish fun _ _ => False
theorem Cx.Ok.wish {X : Cx} (ok : X.Ok) (E : Value → Shared → Prop) : (X.wish E).Ok :=
  ⟨ok.mod, ok.kind, ok.glob, ok.blt, ok.above, ok.inj, ok.has, ok.cab, ok.hd, ok.frames, ok.stk, ok.exf, ok.bs, ok.bsz, ok.noex, ok.exfs, ok.funs, ok.frf⟩
theorem Cx.Ok.unwish {X : Cx} {E : Value → Shared → Prop} (ok : (X.wish E).Ok) : X.Ok :=
  ⟨ok.mod, ok.kind, ok.glob, ok.blt, ok.above, ok.inj, ok.has, ok.cab, ok.hd, ok.frames, ok.stk, ok.exf, ok.bs, ok.bsz, ok.noex, ok.exfs, ok.funs, ok.frf⟩
section
variable {X : Cx} {pins : List (Addr × Obj)} {σ : St} {H : Hp} {s : Shared} {E : Value → Shared → Prop}
theorem Inv.wish (I : Inv X pins σ H s) (E : Value → Shared → Prop) : Inv (X.wish E) pins σ H s := ⟨I.ok.wish E, I.os, I.bare, I.base, I.loc, I.cell, I.free, I.freeC, I.pin, I.hok, I.len⟩
theorem Inv.unwish (I : Inv (X.wish E) pins σ H s) : Inv X pins σ H s := ⟨I.ok.unwish, I.os, I.bare, I.base, I.loc, I.cell, I.free, I.freeC, I.pin, I.hok, I.len⟩
theorem SP.unwish {D : Ends} {f : Flow} {s' : Shared} (h : SP (X.wish E) pins D f s') : SP X pins D f s' := by
  cases f with
  | next => obtain ⟨σ', H', I, q⟩ := h; exact ⟨σ', H', I.unwish, q⟩
  | brk => obtain ⟨σ', H', I, q⟩ := h; exact ⟨σ', H', I.unwish, q⟩
  | cont => obtain ⟨σ', H', I, q⟩ := h; exact ⟨σ', H', I.unwish, q⟩
  | ret u => obtain ⟨v, σ', H', I, r, q⟩ := h; exact ⟨v, σ', H', I.unwish, r, q⟩
theorem PE.nox {e : Expr} {t : TE} (h : PE X.nox e t) : PE X e t := fun pins s σ H Q I hw =>
  wpAny_mono (h pins s σ H Q (I.wish _) hw) (fun _ _ ⟨v, H', I', r, q⟩ => ⟨v, H', I'.unwish, r, q⟩) fun _ _ z => False.elim z
theorem PT.nox {e : Expr} {t : TT} (h : PT X.nox e t) : PT X e t := fun pins s σ H Q I hw =>
  wpAny_mono (h pins s σ H Q (I.wish _) hw) (fun _ _ ⟨H', I', q⟩ => ⟨H', I'.unwish, q⟩) fun _ _ z => False.elim z
theorem PSs.nox {st : List Stmt} {t : TS} (h : PSs X.nox st t) : PSs X st t := fun pins s σ H D I hw =>
  wpAny_mono (h pins s σ H D (I.wish _) hw) (fun _ _ q => q.unwish) fun _ _ z => False.elim z
end

/-! ### blocks and small statements -/
section
variable {X : Cx} {st : Stmt} {rest : List Stmt} {t u : TS} {e : Expr} {te : TE} {pos : Pos}
def tNext : TS := fun D σ H => D.nx σ H
def tSeq (t u : TS) : TS := fun D σ H => t { D with nx := u D } σ H
theorem pss_nil : PSs X [] tNext := fun _ _ σ H _ I h => wpAny_execs_nil ⟨σ, H, I, h⟩
theorem pss_cons (h1 : PS X st t) (h2 : PSs X rest u) : PSs X (st :: rest) (tSeq t u) := by
  intro pins s σ H D I h
  refine wpAny_execs_cons (thn (h1 pins s σ H { D with nx := u D } I h) fun f s1 q => ?_)
  cases f with
  | next =>
    obtain ⟨σ', H', I', q⟩ := q
    exact h2 pins s1 σ' H' D I' q
  | ret v => exact q
  | brk => exact q
  | cont => exact q
theorem pss_one (h1 : PS X st t) : PSs X [st] t := by
  intro pins s σ H D I h
  refine wpAny_execs_cons (thn (h1 pins s σ H D I h) fun f s1 q => ?_)
  cases f with
  | next => exact wpAny_execs_nil q
  | ret v => exact q
  | brk => exact q
  | cont => exact q
/-- in a def's body nothing is shown -/
theorem Inv.quiet {pins : List (Addr × Obj)} {σ : St} {H : Hp} {s : Shared} (I : Inv X pins σ H s) : interactive X.env = false := by simp [interactive, I.ok.kind]
/-- an expression whose value is dropped -/
def tDrop (te : TE) : TS := fun D σ H => te σ H fun _ H1 => D.nx σ H1
theorem ps_expr (he : PE X e te) (hs : swapsWith e none pos.line X.env = pure false := by rfl) : PS X (.Expr e pos) (tDrop te) := by
  intro pins s σ H D I h
  exact wpAny_Expr_any (thn (he pins s σ H _ I h) fun v s1 ⟨x, H1, I1, r1, q1⟩ => ⟨σ, H1, I1, q1⟩) I.quiet hs
def tRet (te : TE) : TS := fun D σ H => te σ H D.rt
theorem ps_ret (he : PE X e te) : PS X (.Return (some e) pos) (tRet te) := by
  intro pins s σ H D I h
  exact wpAny_Return_some (thn (he pins s σ H _ I h) fun v s1 ⟨x, H1, I1, r1, q1⟩ => ⟨x, σ, H1, I1, r1, q1⟩)
def tIfS (c : TT) (t u : TS) : TS := fun D σ H => c σ H fun b H1 => if b = true then t D σ H1 else u D σ H1
theorem ps_if {c : Expr} {a b : List Stmt} {tc : TT} (hc : PT X c tc) (ha : PSs X a t) (hb : PSs X b u) : PS X (.If c a b pos) (tIfS tc t u) := by
  intro pins s σ H D I h
  refine wpAny_If (thn (hc pins s σ H _ I h) fun d s1 ⟨H1, I1, q1⟩ => ?_)
  cases d with
  | true => exact ha pins s1 σ H1 D I1 q1
  | false => exact hb pins s1 σ H1 D I1 q1
/-- code that the proof never comes to -/
def tNever : TS := fun _ _ _ => False
theorem ps_never : PS X st tNever := fun _ _ _ _ _ _ h => h.elim
end

/-! ### targets -/
abbrev TG := V → St → Hp → (St → Hp → Prop) → Prop
def PG (X : Cx) (target : Expr) (t : TG) : Prop :=
  ∀ (pins : List (Addr × Obj)) (s : Shared) (σ : St) (H : Hp) (v : V) (u : Value) (Q : St → Hp → Prop), Inv X pins σ H s → RelV v u → t v σ H Q →
    wpAny (model X.prog X.w) X.A (assign target X.env u) (fun _ s' => ∃ σ' H', Inv X pins σ' H' s' ∧ Q σ' H') X.xe s
section
variable {X : Cx} {pos : Pos}
def gName (i : Nat) : TG := fun v σ H Q => Q (σ.set i (some v)) H
theorem pg_name {i : Nat} {x : Str} (hN : X.N.Nodup) (hi : X.N[i]? = some x) (hx : Loc X.env.scope x) (hf : X.fn x = true ∨ X.env.scope.names.lookup x = some .local := by first | exact .inl rfl | exact .inr rfl | assumption) : PG X (.Name x pos) (gName i) := by
  intro pins s σ H v u Q I r h
  exact wpAny_assign_Name (store_ok I hN hi hx r (fun s' I' => ⟨_, H, I', h⟩) hf)
/-- target = value -/
def tAsg (te : TE) (g : TG) : TS := fun D σ H => te σ H fun x H1 => g x σ H1 D.nx
/-- name = value -/
theorem ps_set {i : Nat} {x : Str} {e : Expr} {te : TE} {pos' : Pos} (hN : X.N.Nodup) (hi : X.N[i]? = some x) (hx : Loc X.env.scope x) (he : PE X e te) (hs : swapsWith e (some (.Name x pos')) pos.line X.env = pure false := by rfl) (hf : X.fn x = true ∨ X.env.scope.names.lookup x = some .local := by first | exact .inl rfl | exact .inr rfl | assumption) :
    PS X (.Assign [.Name x pos'] e pos) (tAsg te (gName i)) := by
  intro pins s σ H D I h
  refine wpAny_Assign_Name (thn (he pins s σ H _ I h) fun v s1 ⟨y, H1, I1, r1, q1⟩ => ?_) hs
  exact store_ok I1 hN hi hx r1 (fun s2 I2 => ⟨_, H1, I2, q1⟩) hf
end

/-! ### while -/
section
variable {X : Cx} {pos : Pos}
end

/-! ### what a loop or a comprehension walks -/
/-- at turn i: it yields x (the heap may grow), or it stops -/
structure It where
  go : Nat → Hp → Prop
  yld : Nat → Hp → V → Hp → Prop
  stop : Nat → Hp → Prop
/-- the iterator's own objects may turn: they are not the frame's, not pinned, younger than the entry (or a comprehension's own) -/
def FpOk (X : Cx) (pins : List (Addr × Obj)) (H : Hp) (b : Addr) : Prop :=
  H b = none ∧ b ≠ X.env.locals ∧ b ∉ X.fs ∧ (b ∈ X.ex ∨ X.s₀.heap.objs.size ≤ b) ∧ (∀ x c, X.env.cells.lookup x = some c → c ≠ b) ∧ ∀ p ∈ X.pn ++ pins, p.1 ≠ b
theorem Inv.fpOk {X : Cx} {pins : List (Addr × Obj)} {σ : St} {H H' : Hp} {s : Shared} {b : Addr} (I : Inv X pins σ H s) (hb : s.heap.objs.size ≤ b) (hn : H' b = none) : FpOk X pins H' b := by
  refine ⟨hn, Nat.ne_of_gt (Nat.lt_of_lt_of_le I.lt hb), I.nofs hb, .inr (Nat.le_trans I.sz hb), fun x c e z => ?_, fun p hp z => ?_⟩
  · obtain ⟨v, q⟩ := I.cell x c e
    exact absurd (Nat.lt_of_lt_of_le q.lt (by rw [z]; exact hb)) (Nat.lt_irrefl _)
  · exact absurd (Nat.lt_of_lt_of_le (Heap.lt_size (I.pin p hp).1) (by rw [z]; exact hb)) (Nat.lt_irrefl _)
structure Turn (P : Program) (w : World) (K : PySem.W.Frag) (tg : Expr) (J : It) (fp : List Addr) (it : Addr) (tn : Nat → Heap → Prop) : Prop where
  mem : it ∈ fp
  obj : ∀ i h, tn i h → ∀ b ∈ fp, ∃ o, h.get? b = some o ∧ ∀ v, o.data ≠ .cell v
  keep : ∀ i h h', tn i h → (∀ b ∈ fp, ∀ o, h.get? b = some o → h'.get? b = some o) → tn i h'
  item : ∀ (X : Cx), X.prog = P → X.w = w → X.K = K → X.calm = true → ∀ (i : Nat) (pins : List (Addr × Obj)) (s : Shared) (σ : St) (H : Hp) (E : Value → Shared → Prop), Inv X pins σ H s → (∀ b ∈ fp, FpOk X pins H b) → tn i s.heap → J.go i H →
    wpAny (model P w) X.A (pyNext (.ref it)) (fun r s1 => ∃ u, r = some u ∧
      wpAny (model P w) X.A (letOwnedTupleGo tg (.ref it) u) (fun _ s2 => ∃ x H', Inv X pins σ H' s2 ∧ RelV x u ∧ J.yld i H x H' ∧ tn (i + 1) s2.heap ∧ ∀ b ∈ fp, H' b = none) E s1) E s
  done : ∀ (X : Cx), X.prog = P → X.w = w → X.K = K → X.calm = true → ∀ (i : Nat) (pins : List (Addr × Obj)) (s : Shared) (σ : St) (H : Hp) (E : Value → Shared → Prop), Inv X pins σ H s → (∀ b ∈ fp, FpOk X pins H b) → tn i s.heap → J.stop i H →
    wpAny (model P w) X.A (pyNext (.ref it)) (fun r s1 => r = none ∧ Inv X pins σ H s1) E s
  self : ∀ (A : Around) (i : Nat) (s : Shared) (Q : Value → Shared → Prop) (E : Value → Shared → Prop), tn i s.heap → Q (.ref it) s → wpAny (model P w) A (pyIter (.ref it)) Q E s
abbrev TI := St → Hp → (It → Hp → Prop) → Prop
/-- an iterator has come -/
def PIE (X : Cx) (pins : List (Addr × Obj)) (σ : St) (tg : Expr) (R : It → Hp → Prop) (itv : Value) (s2 : Shared) : Prop :=
  ∃ (it : Addr) (fp : List Addr) (tn : Nat → Heap → Prop) (J : It) (H' : Hp), itv = .ref it ∧ Inv X pins σ H' s2 ∧ Turn X.prog X.w X.K tg J fp it tn ∧ tn 0 s2.heap ∧ (∀ b ∈ fp, FpOk X pins H' b) ∧ R J H'
def PI (X : Cx) (tg iter : Expr) (wi : TI) : Prop :=
  ∀ (pins : List (Addr × Obj)) (s : Shared) (σ : St) (H : Hp) (R : It → Hp → Prop), Inv X pins σ H s → wi σ H R →
    wpAny (model X.prog X.w) X.A (eval iter X.env) (fun v s1 => wpAny (model X.prog X.w) X.A (pyIter v) (PIE X pins σ tg R) X.xe s1) X.xe s

/-- the step ahead of the store is nothing for an iterator that keeps no tuple -/
theorem go_of {M : Model} {A : Around} {E : Value → Shared → Prop} {s : Shared} {tg : Expr} {it : Addr} {u : Value} {o : Obj} {n : String} {vs : Array Value} {Q : Unit → Shared → Prop} (ho : s.heap.get? it = some o) (hc : o.cls = .type n) (hd : o.data = .fields vs)
    (hn : ["enumerate", "zip", "dict_itemiterator", "dict_reverseitemiterator", "odict_iterator", "itertools.zip_longest", "itertools.pairwise"].contains n = false) (hQ : Q () s) : wpAny M A (letOwnedTupleGo tg (.ref it) u) Q E s := by
  unfold letOwnedTupleGo
  cases tg <;> first
    | exact wpAny_pure hQ
    | (cases u <;> first
        | exact wpAny_pure hQ
        | (refine wpAny_bind (wpAny_load ho ?_)
           rw [hc, hd]
           show wpAny M A (if (["enumerate", "zip", "dict_itemiterator", "dict_reverseitemiterator", "odict_iterator", "itertools.zip_longest", "itertools.pairwise"].contains n && vs[0]? == some (rawInt _)) = true then _ else _) Q E s
           rw [if_neg (by intro h; rw [hn, Bool.false_and] at h; cases h)]
           exact wpAny_pure hQ))

/-- the list at a, as it stands at each turn (a loop may append to it) -/
def Itl (K : PySem.W.Frag) (a : Addr) : It :=
  ⟨fun i H => ∃ xs x, SqL K H a xs ∧ xs[i]? = some x, fun i H x H' => H' = H ∧ ∀ xs, SqL K H a xs → xs[i]? = some x, fun i H => ∃ xs, SqL K H a xs ∧ xs.length ≤ i⟩
def Itt (K : PySem.W.Frag) (a : Addr) : It :=
  ⟨fun i H => ∃ xs x, SqT K H a xs ∧ xs[i]? = some x, fun i H x H' => H' = H ∧ ∀ xs, SqT K H a xs → xs[i]? = some x, fun i H => ∃ xs, SqT K H a xs ∧ xs.length ≤ i⟩
/-- lo, lo + 1, .. (n of them) -/
def Itr (lo : Int) (n : Nat) : It := ⟨fun i _ => i < n, fun i H x H' => H' = H ∧ x = .int (lo + i), fun i _ => n ≤ i⟩
theorem turn_list {P : Program} {w : World} {K : PySem.W.Frag} {tg : Expr} (a it : Addr) : Turn P w K tg (Itl K a) [it] it (fun i h => h.IsListIter it a i) where
  mem := by simp
  obj := fun i h st b hb => by
    have e : b = it := by simpa using hb
    subst e
    obtain ⟨o, e, c, d⟩ := st
    exact ⟨o, e, fun v z => by rw [d] at z; cases z⟩
  keep := fun i h h' st k => st.at fun o e => k it (by simp) o e
  item := by
    intro X hP hw hK hc i pins s σ H E I hf st hg
    subst hP hw hK
    obtain ⟨xs, x, hq, hx⟩ := hg
    obtain ⟨its, rv, p, hz⟩ := I.list hq
    obtain ⟨u, hu, ru⟩ := rv.get hx
    obtain ⟨f0, f1, f2, f3, f4, f5⟩ := hf it (by simp)
    refine wpAny_pyNext_list_item st p.isList (x := u) (by simpa using hu) fun h' st' sb => ?_
    have I1 : Inv X pins σ H { s with heap := h' } := I.turned (t' := s.toks) (fun b o hb e => (sb.2 b hb).trans e) f0 f1 f3 f4 f5
    obtain ⟨o, e, c, d⟩ := id st'
    exact ⟨u, rfl, go_of (s := { s with heap := h' }) e c d (by decide) ⟨x, H, I1, ru, ⟨rfl, fun ys hy => by rw [I.list_inj hy hq]; exact hx⟩, st', fun b hb => (hf b hb).1⟩⟩
  done := by
    intro X hP hw hK hc i pins s σ H E I hf st hg
    subst hP hw hK
    obtain ⟨xs, hq, hx⟩ := hg
    obtain ⟨its, rv, p, hz⟩ := I.list hq
    obtain ⟨f0, f1, f2, f3, f4, f5⟩ := hf it (by simp)
    have hl := rv.length
    exact wpAny_pyNext_list_end (I.ok.hd hc) st p.isList (by simp; omega) fun h' eb => ⟨rfl, I.turned (t' := s.toks) (fun b o hb e => eb b o hb e) f0 f1 f3 f4 f5⟩
  self := fun _ _ _ _ _ st h => wpAny_pyIter_listiter st h
theorem turn_tuple {P : Program} {w : World} {K : PySem.W.Frag} {tg : Expr} (a it : Addr) : Turn P w K tg (Itt K a) [it] it (fun i h => h.IsTupleIter it a i) where
  mem := by simp
  obj := fun i h st b hb => by
    have e : b = it := by simpa using hb
    subst e
    obtain ⟨o, e, c, d⟩ := st
    exact ⟨o, e, fun v z => by rw [d] at z; cases z⟩
  keep := fun i h h' st k => st.at fun o e => k it (by simp) o e
  item := by
    intro X hP hw hK hc i pins s σ H E I hf st hg
    subst hP hw hK
    obtain ⟨xs, x, hq, hx⟩ := hg
    obtain ⟨its, rv, p, hz⟩ := I.tuple hq
    obtain ⟨u, hu, ru⟩ := rv.get hx
    obtain ⟨f0, f1, f2, f3, f4, f5⟩ := hf it (by simp)
    refine wpAny_pyNext_tuple_item st (show s.heap.IsTuple a its.toArray from p) (x := u) (by simpa using hu) fun h' st' sb => ?_
    have I1 : Inv X pins σ H { s with heap := h' } := I.turned (t' := s.toks) (fun b o hb e => (sb.2 b hb).trans e) f0 f1 f3 f4 f5
    obtain ⟨o, e, c, d⟩ := id st'
    exact ⟨u, rfl, go_of (s := { s with heap := h' }) e c d (by decide) ⟨x, H, I1, ru, ⟨rfl, fun ys hy => by rw [I.tuple_inj hy hq]; exact hx⟩, st', fun b hb => (hf b hb).1⟩⟩
  done := by
    intro X hP hw hK hc i pins s σ H E I hf st hg
    subst hP hw hK
    obtain ⟨xs, hq, hx⟩ := hg
    obtain ⟨its, rv, p, hz⟩ := I.tuple hq
    obtain ⟨f0, f1, f2, f3, f4, f5⟩ := hf it (by simp)
    have hl := rv.length
    exact wpAny_pyNext_tuple_end (I.ok.hd hc) st (show s.heap.IsTuple a its.toArray from p) (by simp; omega) fun h' eb => ⟨rfl, I.turned (t' := s.toks) (fun b o hb e => eb b o hb e) f0 f1 f3 f4 f5⟩
  self := fun _ _ _ _ _ st h => wpAny_pyIter_tupleiter st h
theorem turn_range {P : Program} {w : World} {K : PySem.W.Frag} {tg : Expr} (it : Addr) (lo : Int) (n : Nat) : Turn P w K tg (Itr lo n) [it] it (fun i h => IsRangeIter h it (lo + (i : Nat) * 1) ((n : Int) - (i : Nat)) 1) where
  mem := by simp
  obj := fun i h st b hb => by
    have e : b = it := by simpa using hb
    subst e
    exact ⟨_, st, fun v z => by
      have z' : Data.fields _ = Data.cell v := z
      cases z'⟩
  keep := fun i h h' st k => k it (by simp) _ st
  item := by
    intro X hP hw hK hc i pins s σ H E I hf st hg
    subst hP hw hK
    obtain ⟨f0, f1, f2, f3, f4, f5⟩ := hf it (by simp)
    have W := Walks.range (prog := X.prog) (w := X.w) (I.ok.hd hc) it lo 1 n
    refine W.item i s _ _ hg st fun v h' tk hv st' kk => ?_
    obtain ⟨t, rfl⟩ := hv
    have I1 : Inv X pins σ H { s with heap := h', toks := tk } := I.turned (fun b o hb e => kk b o (by simpa using hb) e) f0 f1 f3 f4 f5
    refine ⟨_, rfl, go_of (s := { s with heap := h', toks := tk }) (n := "range_iterator") st' rfl rfl (by decide) ⟨.int (lo + i), H, I1, ⟨t, ?_⟩, ⟨rfl, rfl⟩, st', fun b hb => (hf b hb).1⟩⟩
    rw [Int.mul_one]
  done := by
    intro X hP hw hK hc i pins s σ H E I hf st hg
    subst hP hw hK
    obtain ⟨f0, f1, f2, f3, f4, f5⟩ := hf it (by simp)
    exact wpAny_pyNext_range_end (I.ok.hd hc) st (by have : n ≤ i := hg; omega) fun h' eb => ⟨rfl, I.turned (t' := s.toks) (fun b o hb e => eb b o hb e) f0 f1 f3 f4 f5⟩
  self := fun _ _ _ _ _ st h => wpAny_pyIter_rangeiter st h
end L2

namespace L2
open PySem PySem.Spec PyProof.Rows
section
variable {X : Cx} {tg : Expr}
def iList (K : PySem.W.Frag) (tl : TE) : TI := fun σ H R => tl σ H fun x H1 => ∃ a, x = .ref a ∧ (∃ xs, SqL K H1 a xs) ∧ R (Itl K a) H1
def iTup (K : PySem.W.Frag) (tl : TE) : TI := fun σ H R => tl σ H fun x H1 => ∃ a, x = .ref a ∧ (∃ xs, SqT K H1 a xs) ∧ R (Itt K a) H1
theorem pi_list {l : Expr} {tl : TE} (hl : PE X l tl) : PI X tg l (iList X.K tl) := by
  intro pins s σ H R I h
  refine thn (hl pins s σ H _ I h) fun v s1 ⟨x, H1, I1, r1, q1⟩ => ?_
  obtain ⟨a, e, ⟨xs, hq⟩, q⟩ := q1
  subst e
  cases r1
  obtain ⟨its, rv, p, hz⟩ := I1.list hq
  refine wpAny_pyIter_list p.isList ?_
  refine ⟨s1.heap.objs.size, [s1.heap.objs.size], _, _, H1, rfl, I1.kept (t' := s1.toks) fun b o e => Heap.get?_push_of_some _ e, turn_list a _, ⟨_, Heap.get?_push_size _ rfl, rfl, rfl⟩, fun b hb => ?_, q⟩
  have e : b = s1.heap.objs.size := by simpa using hb
  subst e
  exact I1.fpOk (Nat.le_refl _) (I1.hok.fresh (Nat.le_refl _))
theorem pi_tup {l : Expr} {tl : TE} (hl : PE X l tl) : PI X tg l (iTup X.K tl) := by
  intro pins s σ H R I h
  refine thn (hl pins s σ H _ I h) fun v s1 ⟨x, H1, I1, r1, q1⟩ => ?_
  obtain ⟨a, e, ⟨xs, hq⟩, q⟩ := q1
  subst e
  cases r1
  obtain ⟨its, rv, p, hz⟩ := I1.tuple hq
  refine wpAny_pyIter_tuple (show s1.heap.IsTuple a its.toArray from p) ?_
  refine ⟨s1.heap.objs.size, [s1.heap.objs.size], _, _, H1, rfl, I1.kept (t' := s1.toks) fun b o e => Heap.get?_push_of_some _ e, turn_tuple a _, ⟨_, Heap.get?_push_size _ rfl, rfl, rfl⟩, fun b hb => ?_, q⟩
  have e : b = s1.heap.objs.size := by simpa using hb
  subst e
  exact I1.fpOk (Nat.le_refl _) (I1.hok.fresh (Nat.le_refl _))
/-- a range object just made, walked -/
theorem range_it {pins : List (Addr × Obj)} {σ : St} {H : Hp} {s : Shared} {R : It → Hp → Prop} {E : Value → Shared → Prop} {lo hi : Int} {t u v : Tok} {tk : Nat} (I : Inv X pins σ H s) (h1 : -(2 ^ 62) ≤ lo) (h2 : lo < 2 ^ 62) (h3 : -(2 ^ 62) ≤ hi) (h4 : hi < 2 ^ 62)
    (q : R (Itr lo (hi - lo).toNat) H) : wpAny (model X.prog X.w) X.A (pyIter (.ref s.heap.objs.size)) (PIE X pins σ tg R) E { s with heap := s.heap.push { cls := .type "range", data := .fields #[.int lo t, .int hi u, .int 1 v] }, toks := tk } := by
  refine wpAny_pyIter_range (IsRange.new ..) (small_one h1 h2 h3 h4) ?_
  have I1 : Inv X pins σ H { s with heap := s.heap.push { cls := .type "range", data := .fields #[.int lo t, .int hi u, .int 1 v] }, toks := tk } := I.kept fun b o e => Heap.get?_push_of_some _ e
  refine ⟨(s.heap.push { cls := .type "range", data := .fields #[.int lo t, .int hi u, .int 1 v] }).objs.size, [(s.heap.push { cls := .type "range", data := .fields #[.int lo t, .int hi u, .int 1 v] }).objs.size], _, _, H, rfl,
    I1.kept (t' := tk) fun b o e => Heap.get?_push_of_some _ e, turn_range _ lo (hi - lo).toNat, ?_, fun b hb => ?_, q⟩
  · have e1 : lo + ((0 : Nat) : Int) * 1 = lo := by simp
    have e2 : (((hi - lo).toNat : Nat) : Int) - ((0 : Nat) : Int) = Builtin.Range.rangeSize lo hi 1 := by rw [rangeSize_one]; split <;> omega
    show IsRangeIter _ _ (lo + ((0 : Nat) : Int) * 1) ((((hi - lo).toNat : Nat) : Int) - ((0 : Nat) : Int)) 1
    rw [e1, e2]
    exact Heap.get?_push_size _ rfl
  · have e : b = (s.heap.push { cls := .type "range", data := .fields #[.int lo t, .int hi u, .int 1 v] }).objs.size := by simpa using hb
    subst e
    exact I1.fpOk (Nat.le_refl _) (I1.hok.fresh (Nat.le_refl _))
def iRng1 (ta : TA) : TI := fun σ H R => ta σ H fun vs H1 => ∃ j : Int, vs = [.int j] ∧ -(2 ^ 62) ≤ j ∧ j < 2 ^ 62 ∧ R (Itr 0 j.toNat) H1
theorem pi_range1 {a : Expr} {ta : TA} {p pos : Pos} (hg : Gl X "range") (hm : X.mg "range" = none) (ha : PA X [a] ta) (hs : starEach [a] X.env = [(false, eval a X.env)] := by rfl) : PI X tg (.Call (.Name "range" p) [a] [] pos) (iRng1 ta) := by
  intro pins s σ H R I h
  refine Call_ (ld_blt I hg hm boot_range (PyProof.Rows.callWith_type1 (thn (ha pos pins s σ H _ I h) fun us s1 ⟨vs, H1, I1, r1, q1⟩ => ?_) hs rfl))
  obtain ⟨j, e, q1, q2, q⟩ := q1
  subst e
  cases r1 with
  | cons r rr =>
    cases rr
    obtain ⟨t, rfl⟩ := r
    exact call_range_1 (range_it I1 (by omega) (by omega) q1 q2 (by simpa using q))
/-! ### for -/
/-- W: the invariant by the turn and a measure; N: what the body is to reach -/
def tFor (wi : TI) (g : TG) (tb : TS) : TS := fun D σ H => wi σ H fun J H1 => ∃ W : Nat → Nat → St → Hp → Prop, (∃ m, W 0 m σ H1) ∧ ∀ i m σ H, W i m σ H →
  (J.stop i H ∧ D.nx σ H) ∨ (J.go i H ∧ ∃ N : St → Hp → Prop, (∀ σ' H', N σ' H' → ∃ m', m' < m ∧ W (i + 1) m' σ' H') ∧ ∀ x H', J.yld i H x H' → g x σ H' fun σ2 H2 => tb { D with nx := N, ct := N, bk := D.nx } σ2 H2)
/-- the records at fp as they stand -/
def pinsAt (fp : List Addr) (h : Heap) : List (Addr × Obj) := fp.filterMap fun b => (h.get? b).map fun o => (b, o)
theorem mem_pinsAt {fp : List Addr} {h : Heap} {b : Addr} {o : Obj} (hb : b ∈ fp) (e : h.get? b = some o) : (b, o) ∈ pinsAt fp h := List.mem_filterMap.mpr ⟨b, hb, by rw [e]; rfl⟩
theorem of_pinsAt {fp : List Addr} {h : Heap} {p : Addr × Obj} (hp : p ∈ pinsAt fp h) : p.1 ∈ fp ∧ h.get? p.1 = some p.2 := by
  obtain ⟨b, hb, e⟩ := List.mem_filterMap.mp hp
  cases q : h.get? b with
  | none => rw [q] at e; cases e
  | some o =>
    rw [q] at e
    have e' : (b, o) = p := Option.some.inj e
    subst e'
    exact ⟨hb, q⟩
theorem Inv.pinned {pins : List (Addr × Obj)} {σ : St} {H : Hp} {s : Shared} {fp : List Addr} (I : Inv X pins σ H s) (hf : ∀ b ∈ fp, FpOk X pins H b) (ho : ∀ b ∈ fp, ∃ o, s.heap.get? b = some o ∧ ∀ v, o.data ≠ .cell v) : Inv X (pins ++ pinsAt fp s.heap) σ H s :=
  I.pins_of fun p hp => (List.mem_append.mp hp).elim (fun z => I.pin p (List.mem_append_right _ z)) fun z => by
    obtain ⟨hb, e⟩ := of_pinsAt z
    obtain ⟨f0, f1, f2, _⟩ := hf p.1 hb
    obtain ⟨o, e', d⟩ := ho p.1 hb
    rw [e] at e'; cases e'
    exact ⟨e, f0, f1, f2, d⟩
theorem Inv.unpinned {pins pl : List (Addr × Obj)} {σ : St} {H : Hp} {s : Shared} (I : Inv X (pins ++ pl) σ H s) : Inv X pins σ H s := I.pins_of fun p hp => I.pin p (List.mem_append_right _ (List.mem_append_left _ hp))
theorem ps_for {iter : Expr} {body : List Stmt} {wi : TI} {g : TG} {tb : TS} {pos : Pos} (hp : PassesOwn (model X.prog X.w) X.A X.env X.xe) (hc : X.calm = true) (hi : PI X tg iter wi) (hg : PG X tg g) (hb : PSs X body tb)
    (hs : ∀ x, foldedSetIterable iter X.env x = pure x := by intro _; rfl) : PS X (.For tg iter body [] pos) (tFor wi g tb) := by
  intro pins s σ H D I h
  refine wpAny_For (thn (hi pins s σ H _ I h) fun v s1 h1 => thn h1 fun itv s2 h2 => ?_) hs
  obtain ⟨it, fp, tn, J, H2, e, I2, T, st2, f2, W, ⟨m0, w0⟩, turn⟩ := h2
  subst e
  -- what stays true of the iterator's objects through the loop
  have stat : ∀ {H' : Hp}, (∀ b ∈ fp, H' b = none) → ∀ b ∈ fp, FpOk X pins H' b := fun hn b hb => ⟨hn b hb, (f2 b hb).2⟩
  refine codeAny_forLoop_any (fun n s' => ∃ i σ' H', Inv X pins σ' H' s' ∧ tn i s'.heap ∧ (∀ b ∈ fp, H' b = none) ∧ W i n σ' H') ?_ m0 ⟨0, σ, H2, I2, st2, fun b hb => (f2 b hb).1, w0⟩
  rintro n s3 ⟨i, σ3, H3, I3, st3, fr3, w3⟩
  rcases turn i n σ3 H3 w3 with ⟨stop, qn⟩ | ⟨go, N, hN, step⟩
  · refine wpAny_passesOwn hp (thn (T.done X rfl rfl rfl hc i pins s3 σ3 H3 X.xe I3 (stat fr3) st3 stop) fun r s4 ⟨hr, I4⟩ => ?_)
    subst hr
    exact wpAny_execs_nil ⟨σ3, H3, I4, qn⟩
  · refine wpAny_passesOwn hp (thn (T.item X rfl rfl rfl hc i pins s3 σ3 H3 X.xe I3 (stat fr3) st3 go) fun r s4 ⟨u, hr, h4⟩ => ?_)
    subst hr
    refine wpAny_passesOwn hp (thn h4 fun _ s5 ⟨x, H5, I5, r5, y5, st5, fr5⟩ => ?_)
    have I5' := I5.pinned (stat fr5) (T.obj _ _ st5)
    refine wpAny_passesOwn hp (thn (hg _ s5 σ3 H5 x u _ I5' r5 (step x H5 y5)) fun _ s6 ⟨σ6, H6, I6, q6⟩ => ?_)
    refine wpAny_passesOwn hp (thn (hb _ s6 σ6 H6 _ I6 q6) fun f s7 q7 => ?_)
    have again : ∀ {σ7 : St} {H7 : Hp}, Inv X (pins ++ pinsAt fp s5.heap) σ7 H7 s7 → N σ7 H7 → ∃ m, m < n ∧ ∃ i σ' H', Inv X pins σ' H' s7 ∧ tn i s7.heap ∧ (∀ b ∈ fp, H' b = none) ∧ W i m σ' H' := fun {σ7 H7} I7 n7 => by
      obtain ⟨m', hm, w7⟩ := hN σ7 H7 n7
      refine ⟨m', hm, i + 1, σ7, H7, I7.unpinned, T.keep _ _ _ st5 fun b hb o e => (I7.pin (b, o) (List.mem_append_right _ (List.mem_append_right _ (mem_pinsAt hb e)))).1, fun b hb => ?_, w7⟩
      obtain ⟨o, e, d⟩ := T.obj _ _ st5 b hb
      exact (I7.pin (b, o) (List.mem_append_right _ (List.mem_append_right _ (mem_pinsAt hb e)))).2.1
    cases f with
    | next => obtain ⟨σ7, H7, I7, n7⟩ := q7; exact again I7 n7
    | cont => obtain ⟨σ7, H7, I7, n7⟩ := q7; exact again I7 n7
    | brk => obtain ⟨σ7, H7, I7, q7⟩ := q7; exact ⟨σ7, H7, I7.unpinned, q7⟩
    | ret v => obtain ⟨x7, σ7, H7, I7, r7, q7⟩ := q7; exact ⟨x7, σ7, H7, I7.unpinned, r7, q7⟩
end

/-! ### the forms one uses -/
end L2

namespace L2
open PySem PySem.Spec PyProof.Rows

abbrev R2 := V → V → Hp → VK → Prop
/-- a two-place operation on values: f is binaryOp op, inplaceOp op or compareOp op -/
def OpR (X : Cx) (f : Value → Value → Sem Value) (r : R2) : Prop :=
  ∀ (pins : List (Addr × Obj)) (s : Shared) (σ : St) (H : Hp) (x y : V) (v u : Value) (Q : VK), Inv X pins σ H s → RelV x v → RelV y u → r x y H Q →
    wpAny (model X.prog X.w) X.A (f v u) (EP X pins σ Q) X.xe s
/-- a one-place operation -/
def UnR (X : Cx) (f : Value → Sem Value) (r : V → Hp → VK → Prop) : Prop :=
  ∀ (pins : List (Addr × Obj)) (s : Shared) (σ : St) (H : Hp) (x : V) (v : Value) (Q : VK), Inv X pins σ H s → RelV x v → r x H Q →
    wpAny (model X.prog X.w) X.A (f v) (EP X pins σ Q) X.xe s
/-- a call of a value that is known (a builtin, a type) with values -/
def CallR (X : Cx) (f : Value) (r : List V → Hp → VK → Prop) : Prop :=
  ∀ (pins : List (Addr × Obj)) (s : Shared) (σ : St) (H : Hp) (xs : List V) (us : List Value) (Q : VK), Inv X pins σ H s → Vals xs us → r xs H Q →
    wpAny (model X.prog X.w) X.A (call f us) (EP X pins σ Q) X.xe s
def tOp (r : R2) (ta tb : TE) : TE := fun σ H Q => ta σ H fun x H1 => tb σ H1 fun y H2 => r x y H2 Q
def tUn (r : V → Hp → VK → Prop) (ta : TE) : TE := fun σ H Q => ta σ H fun x H1 => r x H1 Q
/-- ints in, under C, and a value out -/
def rI (C : Int → Int → Prop) (g : Int → Int → V) : R2 := fun x y H Q => ∃ i j, x = .int i ∧ y = .int j ∧ C i j ∧ Q (g i j) H
def rI0 (g : Int → Int → V) : R2 := fun x y H Q => ∃ i j, x = .int i ∧ y = .int j ∧ Q (g i j) H
def rU (g : Int → V) : V → Hp → VK → Prop := fun x H Q => ∃ i, x = .int i ∧ Q (g i) H

section
variable {X : Cx} {a b c : Expr} {ta tb tc : TE} {pos : Pos}

theorem binT (ha : PE X a ta) (hb : PE X b tb) {pins : List (Addr × Obj)} {s : Shared} {σ : St} {H : Hp} {R : V → V → Hp → Prop} (I : Inv X pins σ H s)
    (h : ta σ H fun x H1 => tb σ H1 fun y H2 => R x y H2) {Q : Value → Shared → Prop} {f : Value → Value → Sem Value}
    (hf : ∀ v u s2 x y H2, Inv X pins σ H2 s2 → RelV x v → RelV y u → R x y H2 → wpAny (model X.prog X.w) X.A (f v u) Q X.xe s2) :
    wpAny (model X.prog X.w) X.A (eval a X.env) (fun v s₁ => wpAny (model X.prog X.w) X.A (eval b X.env) (fun u s₂ => wpAny (model X.prog X.w) X.A (f v u) Q X.xe s₂) X.xe s₁) X.xe s := by
  refine thn (ha pins s σ H _ I h) fun v s1 ⟨x, H1, I1, r1, q1⟩ => ?_
  refine thn (hb pins s1 σ H1 _ I1 q1) fun u s2 ⟨y, H2, I2, r2, q2⟩ => ?_
  exact hf v u s2 x y H2 I2 r1 r2 q2

theorem pe_op {op : Operator} {r : R2} (ho : OpR X (binaryOp op) r) (ha : PE X a ta) (hb : PE X b tb) : PE X (.BinOp a op b pos) (tOp r ta tb) := by
  intro pins s σ H Q I h
  exact wpAny_BinOp (binT ha hb I h fun v u s2 x y H2 I2 rx ry q => ho pins s2 σ H2 x y v u Q I2 rx ry q)
theorem pe_un {op : UnaryOp} {r : V → Hp → VK → Prop} (ho : UnR X (unaryOp op) r) (ha : PE X a ta) : PE X (.UnaryOp op a pos) (tUn r ta) := by
  intro pins s σ H Q I h
  exact UnaryOp_ (thn (ha pins s σ H _ I h) fun v s1 ⟨x, H1, I1, r1, q1⟩ => ho pins s1 σ H1 x v Q I1 r1 q1)
/-! ### ints -/
theorem opI {f : Value → Value → Sem Value} {C : Int → Int → Prop} {g : Int → Int → Int}
    (rule : ∀ (i j : Int) (t u : Tok) (s : Shared) (Q : Value → Shared → Prop) (E : Value → Shared → Prop), C i j → Q (.int (g i j) s.toks) { s with toks := s.toks + 1 } → wpAny (model X.prog X.w) X.A (f (.int i t) (.int j u)) Q E s) :
    OpR X f (rI C fun i j => .int (g i j)) := by
  intro pins s σ H x y v u Q I rx ry h
  obtain ⟨i, j, rfl, rfl, hc, q⟩ := h
  obtain ⟨t, rfl⟩ := rx
  obtain ⟨t', rfl⟩ := ry
  exact rule i j t t' s _ _ hc ⟨.int (g i j), H, I.tok _, ⟨_, rfl⟩, q⟩
theorem opI0 {f : Value → Value → Sem Value} {g : Int → Int → Int}
    (rule : ∀ (i j : Int) (t u : Tok) (s : Shared) (Q : Value → Shared → Prop) (E : Value → Shared → Prop), Q (.int (g i j) s.toks) { s with toks := s.toks + 1 } → wpAny (model X.prog X.w) X.A (f (.int i t) (.int j u)) Q E s) :
    OpR X f (rI0 fun i j => .int (g i j)) := by
  intro pins s σ H x y v u Q I rx ry h
  obtain ⟨i, j, rfl, rfl, q⟩ := h
  obtain ⟨t, rfl⟩ := rx
  obtain ⟨t', rfl⟩ := ry
  exact rule i j t t' s _ _ ⟨.int (g i j), H, I.tok _, ⟨_, rfl⟩, q⟩
theorem opB0 {f : Value → Value → Sem Value} {g : Int → Int → Bool}
    (rule : ∀ (i j : Int) (t u : Tok) (s : Shared) (Q : Value → Shared → Prop) (E : Value → Shared → Prop), Q (.bool (g i j)) s → wpAny (model X.prog X.w) X.A (f (.int i t) (.int j u)) Q E s) :
    OpR X f (rI0 fun i j => .bl (g i j)) := by
  intro pins s σ H x y v u Q I rx ry h
  obtain ⟨i, j, rfl, rfl, q⟩ := h
  obtain ⟨t, rfl⟩ := rx
  obtain ⟨t', rfl⟩ := ry
  exact rule i j t t' s _ _ ⟨.bl (g i j), H, I, rfl, q⟩

def CDiv (i j : Int) : Prop := 0 < j ∧ j < 1073741824
def CMul (i j : Int) : Prop := (-(2 ^ 64) < i ∧ i < 2 ^ 64) ∨ (-(2 ^ 64) < j ∧ j < 2 ^ 64)
theorem CMul.ok {i j : Int} (h : CMul i j) : IntMulOk i j := by
  rcases h with ⟨h1, h2⟩ | ⟨h1, h2⟩
  · exact .of_left (intBits_le_64 h1 h2)
  · exact .of_right (intBits_le_64 h1 h2)
theorem op_add : OpR X (binaryOp .Add) (rI0 fun i j => .int (i + j)) := opI0 fun _ _ _ _ _ _ _ q => add_int q
theorem op_mul : OpR X (binaryOp .Mult) (rI CMul fun i j => .int (i * j)) := opI fun _ _ _ _ _ _ _ hc q => mul_int q hc.ok
/-- // by a positive divisor -/
theorem op_fdiv : OpR X (binaryOp .FloorDiv) (rI CDiv fun i j => .int (i / j)) := opI fun i j _ _ _ _ _ hc q => by
  have h1 : (0 : Int) < j := hc.1
  have h2 : j < 1073741824 := hc.2
  exact floordiv_int (by omega) (by rw [Int.fdiv_eq_ediv_of_nonneg i (by omega)]; exact q) (.inl (PyProof.noPylong_small (by omega)))
/-- % by a positive divisor of any size -/
theorem op_mod : OpR X (binaryOp .Mod) (rI (fun _ j => 0 < j) fun i j => .int (i % j)) := opI fun i j _ _ _ _ _ hc q => by
  have h1 : (0 : Int) < j := hc
  exact mod_int' (by omega) (by rw [Int.fmod_eq_emod_of_nonneg i (by omega)]; exact q)
theorem unI {f : Value → Sem Value} {g : Int → Int}
    (rule : ∀ (i : Int) (t : Tok) (s : Shared) (Q : Value → Shared → Prop) (E : Value → Shared → Prop), Q (.int (g i) s.toks) { s with toks := s.toks + 1 } → wpAny (model X.prog X.w) X.A (f (.int i t)) Q E s) :
    UnR X f (rU fun i => .int (g i)) := by
  intro pins s σ H x v Q I rx h
  obtain ⟨i, rfl, q⟩ := h
  obtain ⟨t, rfl⟩ := rx
  exact rule i t s _ _ ⟨.int (g i), H, I.tok _, ⟨_, rfl⟩, q⟩
theorem un_neg : UnR X (unaryOp .USub) (rU fun i => .int (-i)) := unI fun _ _ _ _ _ q => neg_int q
/-! ### bools among ints: n += (a < b) -/
end

/-! ### comparisons -/
/-- the scalars that == tells apart as data does -/
def scal : V → V → Bool
  | .non, .non => true | .non, .int _ => true | .int _, .non => true | .non, .bl _ => true | .bl _, .non => true | .non, .str _ => true | .str _, .non => true
  | .int _, .int _ => true | .bl _, .bl _ => true | .str _, .str _ => true | .byt _, .byt _ => true
  | .int _, .str _ => true | .str _, .int _ => true | .bl _, .str _ => true | .str _, .bl _ => true
  | _, _ => false
def rEq : R2 := fun x y H Q => scal x y = true ∧ Q (.bl (decide (x = y))) H
def rNe : R2 := fun x y H Q => scal x y = true ∧ Q (.bl (!decide (x = y))) H

theorem dec_int {i j : Int} : decide (V.int i = V.int j) = (i == j) := by
  rw [Bool.eq_iff_iff]
  simp
theorem dec_bl {i j : Bool} : decide (V.bl i = V.bl j) = (i == j) := by
  rw [Bool.eq_iff_iff]
  simp
theorem dec_str {i j : Str} : decide (V.str i = V.str j) = (i == j) := by
  rw [Bool.eq_iff_iff]
  simp
theorem dec_byt {i j : Array UInt8} : decide (V.byt i = V.byt j) = (i.toList == j.toList) := by
  rw [Bool.eq_iff_iff]
  cases i
  cases j
  simp

section
variable {X : Cx} {a b c : Expr} {ta tb tc : TE} {pos : Pos}
theorem fin_bl {pins : List (Addr × Obj)} {σ : St} {H : Hp} {s : Shared} {Q : VK} {k k' : Bool} (I : Inv X pins σ H s) (q : Q (.bl k) H) (e : k = k') : EP X pins σ Q (.bool k') s := by
  subst e
  exact ⟨.bl k, H, I, rfl, q⟩
theorem op_eq : OpR X (compareOp .Eq) rEq := by
  intro pins s σ H x y v u Q I rx ry h
  obtain ⟨hs, q⟩ := h
  cases x with
  | non =>
    cases rx
    cases y with
    | non => cases ry; exact PySem.EqNone.eq_none_none (fin_bl I q (by simp))
    | bl j => cases ry; exact PySem.EqNone.eq_none_bool (fin_bl I q (by simp))
    | int j => obtain ⟨t', rfl⟩ := ry; exact PySem.EqNone.eq_none_int (fin_bl I q (by simp))
    | str j => obtain ⟨t', rfl⟩ := ry; exact PySem.EqNone.eq_none_str (fin_bl I q (by simp))
    | _ => exact absurd (show false = true from hs) Bool.false_ne_true
  | bl i =>
    cases rx
    cases y with
    | non => cases ry; exact PySem.EqNone.eq_bool_none (fin_bl I q (by simp))
    | bl j => cases ry; exact eq_bool (fin_bl I q dec_bl)
    | str j => obtain ⟨t', rfl⟩ := ry; exact PySem.EqMixed.eq_bool_str (fin_bl I q (by simp))
    | _ => exact absurd (show false = true from hs) Bool.false_ne_true
  | int i =>
    obtain ⟨t, rfl⟩ := rx
    cases y with
    | non => cases ry; exact PySem.EqNone.eq_int_none (fin_bl I q (by simp))
    | int j => obtain ⟨t', rfl⟩ := ry; exact eq_int (fin_bl I q dec_int)
    | str j => obtain ⟨t', rfl⟩ := ry; exact PySem.EqMixed.eq_int_str (fin_bl I q (by simp))
    | _ => exact absurd (show false = true from hs) Bool.false_ne_true
  | str i =>
    obtain ⟨t, rfl⟩ := rx
    cases y with
    | non => cases ry; exact PySem.EqNone.eq_str_none (fin_bl I q (by simp))
    | bl j => cases ry; exact PySem.EqMixed.eq_str_bool (fin_bl I q (by simp))
    | int j => obtain ⟨t', rfl⟩ := ry; exact PySem.EqMixed.eq_str_int (fin_bl I q (by simp))
    | str j => obtain ⟨t', rfl⟩ := ry; exact eq_str (fin_bl I q dec_str)
    | _ => exact absurd (show false = true from hs) Bool.false_ne_true
  | byt i =>
    obtain ⟨t, rfl⟩ := rx
    cases y with
    | byt j => obtain ⟨t', rfl⟩ := ry; exact PySem.W.eq_bytes (fin_bl I q dec_byt)
    | _ => exact absurd (show false = true from hs) Bool.false_ne_true
  | _ => cases y <;> exact absurd (show false = true from hs) Bool.false_ne_true
theorem op_ne : OpR X (compareOp .NotEq) rNe := by
  intro pins s σ H x y v u Q I rx ry h
  obtain ⟨hs, q⟩ := h
  cases x with
  | non =>
    cases rx
    cases y with
    | non => cases ry; exact PySem.EqNone.ne_none_none (fin_bl I q (by simp))
    | bl j => cases ry; exact PySem.EqNone.ne_none_bool (fin_bl I q (by simp))
    | int j => obtain ⟨t', rfl⟩ := ry; exact PySem.EqNone.ne_none_int (fin_bl I q (by simp))
    | str j => obtain ⟨t', rfl⟩ := ry; exact PySem.EqNone.ne_none_str (fin_bl I q (by simp))
    | _ => exact absurd (show false = true from hs) Bool.false_ne_true
  | bl i =>
    cases rx
    cases y with
    | non => cases ry; exact PySem.EqNone.ne_bool_none (fin_bl I q (by simp))
    | bl j => cases ry; exact ne_bool (fin_bl I q (congrArg not dec_bl))
    | str j => obtain ⟨t', rfl⟩ := ry; exact PySem.EqMixed.ne_bool_str (fin_bl I q (by simp))
    | _ => exact absurd (show false = true from hs) Bool.false_ne_true
  | int i =>
    obtain ⟨t, rfl⟩ := rx
    cases y with
    | non => cases ry; exact PySem.EqNone.ne_int_none (fin_bl I q (by simp))
    | int j => obtain ⟨t', rfl⟩ := ry; exact ne_int (fin_bl I q (congrArg not dec_int))
    | str j => obtain ⟨t', rfl⟩ := ry; exact PySem.EqMixed.ne_int_str (fin_bl I q (by simp))
    | _ => exact absurd (show false = true from hs) Bool.false_ne_true
  | str i =>
    obtain ⟨t, rfl⟩ := rx
    cases y with
    | non => cases ry; exact PySem.EqNone.ne_str_none (fin_bl I q (by simp))
    | bl j => cases ry; exact PySem.EqMixed.ne_str_bool (fin_bl I q (by simp))
    | int j => obtain ⟨t', rfl⟩ := ry; exact PySem.EqMixed.ne_str_int (fin_bl I q (by simp))
    | str j => obtain ⟨t', rfl⟩ := ry; exact ne_str (fin_bl I q (congrArg not dec_str))
    | _ => exact absurd (show false = true from hs) Bool.false_ne_true
  | byt i =>
    obtain ⟨t, rfl⟩ := rx
    cases y with
    | byt j => obtain ⟨t', rfl⟩ := ry; exact PySem.W.ne_bytes (fin_bl I q (congrArg not dec_byt))
    | _ => exact absurd (show false = true from hs) Bool.false_ne_true
  | _ => cases y <;> exact absurd (show false = true from hs) Bool.false_ne_true

theorem op_lt : OpR X (compareOp .Lt) (rI0 fun i j => .bl (decide (i < j))) := opB0 fun _ _ _ _ _ _ _ q => lt_int q
theorem op_le : OpR X (compareOp .LtE) (rI0 fun i j => .bl (decide (i ≤ j))) := opB0 fun _ _ _ _ _ _ _ q => le_int q
/-- the one string within the other -/
theorem op_in_str : OpR X (compareOp .In) (fun x y H Q => ∃ i j, x = .str i ∧ y = .str j ∧ Q (.bl (!(Builtin.Str.occurrences j i 0 j.length 1).isEmpty)) H) := by
  intro pins s σ H x y v u Q I rx ry h
  obtain ⟨i, j, rfl, rfl, q⟩ := h
  obtain ⟨t, rfl⟩ := rx
  obtain ⟨t', rfl⟩ := ry
  exact in_str (fin_bl I q rfl)

/-- two rules for one operation: by cases -/
theorem OpR.or {f : Value → Value → Sem Value} {r r' : R2} (h : OpR X f r) (h' : OpR X f r') : OpR X f (fun x y H Q => r x y H Q ∨ r' x y H Q) := by
  intro pins s σ H x y v u Q I rx ry q
  rcases q with q | q
  · exact h pins s σ H x y v u Q I rx ry q
  · exact h' pins s σ H x y v u Q I rx ry q

theorem nomark (b : Expr) {op : CmpOp} (h : op ≠ .In := by decide) (h2 : op ≠ .NotIn := by decide) : behindInMarks op b = false := by
  have e1 : (op == CmpOp.In) = false := by cases op <;> first | rfl | exact absurd rfl h
  have e2 : (op == CmpOp.NotIn) = false := by cases op <;> first | rfl | exact absurd rfl h2
  cases b <;> simp [behindInMarks, e1, e2]
/-- a comparison as a value; hm: nomark b, or (for in, not in) by with_unfolding_all rfl -/
theorem pe_cmpR {op : CmpOp} {r : R2} (ho : OpR X (compareOp op) r) (ha : PE X a ta) (hb : PE X b tb) (hm : behindInMarks op b = false) : PE X (.Compare a [op] [b] pos) (tOp r ta tb) := by
  intro pins s σ H Q I h
  exact wpAny_Compare1 (binT ha hb I h fun v u s2 x y H2 I2 rx ry q => ho pins s2 σ H2 x y v u Q I2 rx ry q) hm
/-- a reading of a value as a test -/
def tTest (t : TE) : TT := fun σ H Q => t σ H fun x H' => ∃ k, x = .bl k ∧ Q k H'
theorem pt_cmpR {op : CmpOp} {r : R2} (ho : OpR X (compareOp op) r) (ha : PE X a ta) (hb : PE X b tb) (hm : behindInMarks op b = false) : PT X (.Compare a [op] [b] pos) (tTest (tOp r ta tb)) := by
  intro pins s σ H Q I h
  refine wpAny_isTrue_Compare1 (thn (ha pins s σ H _ I h) fun v s1 ⟨x, H1, I1, r1, q1⟩ => thn (hb pins s1 σ H1 _ I1 q1) fun u s2 ⟨y, H2, I2, r2, q2⟩ =>
    thn (ho pins s2 σ H2 x y v u _ I2 r1 r2 q2) fun c s3 ⟨z, H3, I3, r3, k, e, q3⟩ => ?_) hm
  subst e
  cases r3
  exact wpAny_truthy_bool ⟨H3, I3, q3⟩
/-- a op1 b op2 c -/
def tChain (r r' : R2) (ta tb tc : TE) : TE := fun σ H Q => ta σ H fun x H1 => tb σ H1 fun y H2 => r x y H2 fun z H3 => ∃ k, z = .bl k ∧
  (if k = true then tc σ H3 fun w' H4 => r' y w' H4 Q else Q (.bl false) H3)
theorem pe_chain {op op' : CmpOp} {r r' : R2} (ho : OpR X (compareOp op) r) (ho' : OpR X (compareOp op') r') (ha : PE X a ta) (hb : PE X b tb) (hc : PE X c tc)
    (hm : lastMarks [op, op'] [b, c] = false := by with_unfolding_all rfl) : PE X (.Compare a [op, op'] [b, c] pos) (tChain r r' ta tb tc) := by
  intro pins s σ H Q I h
  refine Compare_chain (thn (ha pins s σ H _ I h) fun v s1 ⟨x, H1, I1, r1, q1⟩ => chain_link (thn (hb pins s1 σ H1 _ I1 q1) fun u s2 ⟨y, H2, I2, r2, q2⟩ =>
    thn (ho pins s2 σ H2 x y v u _ I2 r1 r2 q2) fun d s3 ⟨z, H3, I3, r3, k, e, q3⟩ => ?_)) hm
  subst e
  cases r3
  refine wpAny_truthy_bool ?_
  cases k with
  | false => exact ite_ff ⟨.bl false, H3, I3, rfl, q3⟩
  | true => exact ite_tt (chain_last (thn (hc pins s3 σ H3 _ I3 q3) fun w' s4 ⟨z', H4, I4, r4, q4⟩ => ho' pins s4 σ H4 y z' u w' Q I4 r2 r4 q4))
theorem pt_chain {op op' : CmpOp} {r r' : R2} (ho : OpR X (compareOp op) r) (ho' : OpR X (compareOp op') r') (ha : PE X a ta) (hb : PE X b tb) (hc : PE X c tc)
    (hm : lastMarks [op, op'] [b, c] = false := by with_unfolding_all rfl) : PT X (.Compare a [op, op'] [b, c] pos) (tTest (tChain r r' ta tb tc)) := by
  intro pins s σ H Q I h
  refine isTrue_chain (thn (ha pins s σ H _ I h) fun v s1 ⟨x, H1, I1, r1, q1⟩ => test_link (thn (hb pins s1 σ H1 _ I1 q1) fun u s2 ⟨y, H2, I2, r2, q2⟩ =>
    thn (ho pins s2 σ H2 x y v u _ I2 r1 r2 q2) fun d s3 ⟨z, H3, I3, r3, k, e, q3⟩ => ?_)) hm
  subst e
  cases r3
  refine wpAny_truthy_bool ?_
  cases k with
  | false =>
    obtain ⟨k', e', q'⟩ := q3
    cases e'
    exact ite_ff ⟨H3, I3, q'⟩
  | true =>
    refine ite_tt (test_last (thn (hc pins s3 σ H3 _ I3 q3) fun w' s4 ⟨z', H4, I4, r4, q4⟩ => thn (ho' pins s4 σ H4 y z' u w' _ I4 r2 r4 q4) fun d' s5 ⟨z2, H5, I5, r5, k2, e2, q5⟩ => ?_))
    subst e2
    cases r5
    exact wpAny_truthy_bool ⟨H5, I5, q5⟩

/-! ### truth -/
theorem line63 : (sizeLine : Nat) < 2 ^ 63 := by rw [sizeLine_eq]; decide
/-! ### strs and bytes -/
theorem op_add_str : OpR X (binaryOp .Add) (fun x y H Q => ∃ i j, x = .str i ∧ y = .str j ∧ i.length + j.length ≤ sizeLine ∧ Q (.str (i ++ j)) H) := by
  intro pins s σ H x y v u Q I rx ry h
  obtain ⟨i, j, rfl, rfl, hz, q⟩ := h
  obtain ⟨t, rfl⟩ := rx
  obtain ⟨t', rfl⟩ := ry
  exact add_str (fun t' tk => ⟨.str (i ++ j), H, I.tok _, ⟨_, rfl⟩, q⟩) hz
/-! ### scalar builtins, by CallR -/
theorem vals1 {x : V} {us : List Value} (r : Vals [x] us) : ∃ u, us = [u] ∧ RelV x u := by
  cases r with
  | cons r1 r2 => cases r2; exact ⟨_, rfl, r1⟩
theorem vals2 {x y : V} {us : List Value} (r : Vals [x, y] us) : ∃ u w', us = [u, w'] ∧ RelV x u ∧ RelV y w' := by
  cases r with
  | cons r1 r2 =>
    cases r2 with
    | cons r3 r4 => cases r4; exact ⟨_, _, rfl, r1, r3⟩
theorem call_max2 (hc : X.calm = true) : CallR X (.builtin "max") (fun xs H Q => ∃ i j, xs = [.int i, .int j] ∧ Q (.int (if j > i then j else i)) H) := by
  intro pins s σ H xs us Q I r h
  obtain ⟨i, j, rfl, q⟩ := h
  obtain ⟨u, w', rfl, ⟨t, rfl⟩, ⟨t', rfl⟩⟩ := vals2 r
  refine max_two_ints (I.ok.hd hc) fun h' tk k => ⟨_, H, I.kept k, ?_, q⟩
  by_cases hj : j > i
  · rw [if_pos hj, if_pos hj]; exact ⟨_, rfl⟩
  · rw [if_neg hj, if_neg hj]; exact ⟨_, rfl⟩
theorem call_min2 (hc : X.calm = true) : CallR X (.builtin "min") (fun xs H Q => ∃ i j, xs = [.int i, .int j] ∧ Q (.int (if j < i then j else i)) H) := by
  intro pins s σ H xs us Q I r h
  obtain ⟨i, j, rfl, q⟩ := h
  obtain ⟨u, w', rfl, ⟨t, rfl⟩, ⟨t', rfl⟩⟩ := vals2 r
  refine min_two_ints (I.ok.hd hc) fun h' tk k => ⟨_, H, I.kept k, ?_, q⟩
  by_cases hj : j < i
  · rw [if_pos hj, if_pos hj]; exact ⟨_, rfl⟩
  · rw [if_neg hj, if_neg hj]; exact ⟨_, rfl⟩
theorem call_int1 : CallR X (.type "int") (fun xs H Q => (∃ i, xs = [.int i] ∧ Q (.int i) H) ∨ ∃ k, xs = [.bl k] ∧ Q (.int (if k then 1 else 0)) H) := by
  intro pins s σ H xs us Q I r h
  rcases h with ⟨i, rfl, q⟩ | ⟨k, rfl, q⟩
  · obtain ⟨u, rfl, t, rfl⟩ := vals1 r
    exact call_int_int ⟨.int i, H, I, ⟨_, rfl⟩, q⟩
  · obtain ⟨u, rfl, r1⟩ := vals1 r
    cases r1
    exact call_int_bool ⟨.int (if k then 1 else 0), H, I.tok _, ⟨_, rfl⟩, q⟩
theorem call_ord : CallR X (.builtin "ord") (fun xs H Q => ∃ x, xs = [.str x] ∧ x.length = 1 ∧ Q (.int (x.cps.getD 0 0 : Nat)) H) := by
  intro pins s σ H xs us Q I r h
  obtain ⟨x, rfl, hz, q⟩ := h
  obtain ⟨u, rfl, t, rfl⟩ := vals1 r
  exact ord_of_one hz ⟨.int _, H, I.tok _, ⟨_, rfl⟩, q⟩
end
end L2

namespace L2
open PySem PySem.Spec PyProof.Rows

/-! ### an instance, its attributes a map -/
structure ObjM (h : Heap) (x dx C : Addr) (mA : Str → Option Value) : Prop where
  obj : h.get? x = some (PySem.W.instObj C dx)
  ns : h.Ns1 dx mA
  ne : dx ≠ x

section
variable {prog : Program} {w : World} {A : Around} {E : Value → Shared → Prop} {s : Shared} {K : PySem.W.Frag} {x dx C f : Addr} {mA : Str → Option Value} {name : Str} {v : Value}

end

/-! ### the attributes as a list of pairs -/
section
variable {P : Program} {w : World} {H H' : Hp} {h h' : Heap} {a C dx : Addr} {fs fs' : List (Str × V)}
end

/-! ### what of the text a class must have -/
structure Cls (K : PySem.W.Frag) (C : Addr) : Prop where
  pg : PySem.W.plainGet K C Str.empty = true
  hd : PySem.W.hasDictIn K C = true
  po : PySem.W.plainOver K C = true
  sa : PySem.W.findIn K (.ref C) "__setattr__" = some (some (.builtin "object.__setattr__"))
theorem Cls.get {K : PySem.W.Frag} {C : Addr} (c : Cls K C) (f : Str) : PySem.W.plainGet K C f = true := c.pg
/-- a constant of the class -/
structure Con (K : PySem.W.Frag) (C : Addr) (f : Str) (v : V) (u : Value) : Prop where
  at_ : PySem.W.findIn K (.ref C) f = some (some u)
  rel : RelV v u
  get : PySem.W.specialIn K u "__get__" = some none
  cp : PySem.W.copiedNames.contains f = false
/-- a method: a plain def of the class or of one above it -/
structure Meth (K : PySem.W.Frag) (C : Addr) (m : Str) (f : Addr) : Prop where
  at_ : PySem.W.findIn K (.ref C) m = some (some (.ref f))
  fn : PySem.W.isFn K (.ref f) = true
  kp : PySem.W.keepIn K (.ref f) = true

section
variable {X : Cx} {pins : List (Addr × Obj)} {σ : St} {H : Hp} {s : Shared} {a C dx : Addr} {fs : List (Str × V)} {f : Str} {v : V} {A : Around} {E : Value → Shared → Prop}

/-- a new instance, tracked, without attributes -/
theorem Inv.made (I : Inv X pins σ H s) : Inv X pins σ (upd (upd H s.heap.objs.size (.own (s.heap.objs.size + 1))) (s.heap.objs.size + 1) (.ins C s.heap.objs.size []))
    { s with heap := (s.heap.push PySem.W.emptyDict).push (PySem.W.instObj C s.heap.objs.size) } := by
  have e1 : (s.heap.push PySem.W.emptyDict).get? s.heap.objs.size = some PySem.W.emptyDict := Heap.get?_push_size s.heap rfl
  have e2 : ((s.heap.push PySem.W.emptyDict).push (PySem.W.instObj C s.heap.objs.size)).get? (s.heap.objs.size + 1) = some (PySem.W.instObj C s.heap.objs.size) := by
    have := Heap.get?_push_size (s.heap.push PySem.W.emptyDict) (o := PySem.W.instObj C s.heap.objs.size) rfl
    rwa [Heap.size_push] at this
  have e3 : (s.heap.push PySem.W.emptyDict).Ns s.heap.objs.size (fun _ => none) := ⟨PySem.W.emptyDict, #[], _, e1, rfl, (fun e he => absurd he (by simp)), fun _ => rfl⟩
  have I1 := I.laid (a := s.heap.objs.size) (o := .own (s.heap.objs.size + 1)) (h' := s.heap.push PySem.W.emptyDict) (t' := s.toks) (fun b u q => Heap.get?_push_of_some _ q) (Nat.le_refl _) ⟨_, e1⟩
  refine I1.laid (a := s.heap.objs.size + 1) (o := .ins C s.heap.objs.size []) (t' := s.toks) (fun b u q => Heap.get?_push_of_some _ q) (Nat.le_of_eq (Heap.size_push _ _)) ?_
  have ne : s.heap.objs.size ≠ s.heap.objs.size + 1 := Nat.ne_of_lt (Nat.lt_succ_self _)
  refine ⟨by rw [upd_ne ne, upd_same], Nat.zero_le _, ne, e2, fun _ => none, (Heap.Ns1.of_empty e3).at fun o q => Heap.get?_push_of_some _ q, fun _ => True.intro, fun y hy => absurd rfl hy⟩

end

/-! ### readings and rules -/
section
variable {X : Cx} {o e value : Expr} {f : Str} {pos pos' tpos : Pos} {ta tv : TE}
end

/-! ### isinstance -/
section
variable {X : Cx} {pins : List (Addr × Obj)} {σ : St} {H : Hp} {s : Shared} {A : Around} {E : Value → Shared → Prop} {Q : Value → Shared → Prop} {c : Value} {b : Bool}
/-- the type of a value, as the fragment's deciders take it; for an instance its class -/
inductive TyOf (K : PySem.W.Frag) (H : Hp) : V → Value → Prop where
  | non : TyOf K H .non (.type "NoneType")
  | bl (x : Bool) : TyOf K H (.bl x) (.type "bool")
  | int (i : Int) : TyOf K H (.int i) (.type "int")
  | str (x : Str) : TyOf K H (.str x) (.type "str")
  | flt (x : UInt64) : TyOf K H (.flt x) (.type "float")
  | lst {a : Addr} {xs : List V} (e : H a = some (.lst xs)) : TyOf K H (.ref a) (.type "list")
  | frz {a : Addr} {o : Obj} {xs : List V} (e : H a = some (.frz o (.lst xs))) : TyOf K H (.ref a) (.type "list")
  | tup {a : Addr} {xs : List V} (e : H a = some (.tup xs)) : TyOf K H (.ref a) (.type "tuple")
  | dK {a : Addr} {kvs : List (Key × V)} (e : H a = some (.dK kvs)) : TyOf K H (.ref a) (.type "dict")
  | dT {a : Addr} {kvs : List (List Key × V)} (e : H a = some (.dT kvs)) : TyOf K H (.ref a) (.type "dict")
  | ins {a C dx : Addr} {fs : List (Str × V)} (e : H a = some (.ins C dx fs)) (cl : Cls K C) (ha : PySem.W.findIn K (.ref C) "__class__" = some (some (.builtin "object.__class__")))
      (hn : PySem.W.specialIn K (.builtin "object.__class__") "__get__" = some (some (.builtin "getset_descriptor.__get__"))) (htk : PySem.W.takesIn K (.builtin "object.__class__") = some true)
      (hm : PySem.W.mroIn K C (.type "object") = some true) : TyOf K H (.ref a) (.ref C)
end
end L2

namespace L2
open PySem PySem.Spec PyProof.Rows

/-! ### room -/
structure Room (k : Nat) (A : Around) : Prop where
  hd : A.handled = none
  dp : A.depth + 3 * k + 5 < recursionLimit
  un : A.units + 16 * k + 200 < cLine
theorem Room.mono {j k : Nat} {A : Around} (r : Room k A) (h : j ≤ k) : Room j A := ⟨r.hd, by have := r.dp; omega, by have := r.un; omega⟩
theorem Room.deeper {k : Nat} {A : Around} (r : Room (k + 1) A) (env : Env) : Room k (A.deeper env) :=
  ⟨r.hd, by have := r.dp; show A.depth + 1 + 3 * k + 5 < _; omega, by have := r.un; show A.units + 3 + 16 * k + 200 < _; omega⟩
theorem Room.in1 {k : Nat} {A : Around} (r : Room (k + 1) A) : Room k A.in1 :=
  ⟨r.hd, by have := r.dp; show A.depth + 3 * k + 5 < _; omega, by have := r.un; show A.units + 1 + 16 * k + 200 < _; omega⟩
theorem Room.depth {k : Nat} {A : Around} (r : Room k A) : A.depth < recursionLimit := by have := r.dp; omega
theorem Room.units {k : Nat} {A : Around} (r : Room k A) : A.units + 64 < cLine := by have := r.un; omega
/-! ### argument lists and displays -/
def tNil : TA := fun _ H Q => Q [] H
def tCons (ta : TE) (tr : TA) : TA := fun σ H Q => ta σ H fun x H1 => tr σ H1 fun xs H2 => Q (x :: xs) H2
section
variable {X : Cx} {e : Expr} {es : List Expr} {te : TE} {t : TA} {pos : Pos}
theorem pa_nil : PA X [] tNil := fun _ _ _ _ H Q I h => Calls.spliced_nil ⟨[], H, I, .nil, h⟩
theorem pa_cons (ha : PE X e te) (hr : PA X es t) (hs : starEach (e :: es) X.env = (false, eval e X.env) :: starEach es X.env := by rfl) : PA X (e :: es) (tCons te t) := by
  intro pos pins s σ H Q I h
  rw [hs]
  show wpAny _ _ (spliced ((false, eval e X.env) :: backTo pos (starEach es X.env))) _ _ s
  refine Calls.spliced_cons (thn (ha pins s σ H _ I h) fun u s1 ⟨x, H1, I1, r1, q1⟩ => ?_)
  exact thn (hr pos pins s1 σ H1 _ I1 q1) fun us s2 ⟨xs, H2, I2, r2, q2⟩ => ⟨x :: xs, H2, I2, .cons r1 r2, q2⟩

/-- a tuple, a list of written items -/
def tTup (t : TA) : TE := fun σ H Q => t σ H fun xs H1 => xs.length ≤ sizeLine ∧ ∀ p, H1 p = none → Q (.ref p) (upd H1 p (.tup xs))
def tLst (t : TA) : TE := fun σ H Q => t σ H fun xs H1 => xs.length ≤ sizeLine ∧ ∀ p, H1 p = none → Q (.ref p) (upd H1 p (.lst xs))
theorem pe_tup {x1} (h : PA X es t) : PE X (.Tuple es x1 pos) (tTup t) := by
  intro pins s σ H Q I hq
  refine wpAny_Tuple_spliced (thn (h pos pins s σ H _ I hq) fun us s1 ⟨xs, H1, I1, r, z, q⟩ => ⟨by rw [← r.length]; exact z, ?_⟩)
  have hf : H1 s1.heap.objs.size = none := I1.hok.fresh (Nat.le_refl _)
  refine ⟨.ref s1.heap.objs.size, upd H1 s1.heap.objs.size (.tup xs), I1.laid (t' := s1.toks) (fun b u e => Heap.get?_push_of_some _ e) (Nat.le_refl _) ?_, rfl, q _ hf⟩
  exact ⟨z, us, r, ⟨_, Heap.get?_push_size _ rfl, rfl, _, rfl⟩⟩
theorem pe_lst (h : PA X es t) : PE X (.List es pos) (tLst t) := by
  intro pins s σ H Q I hq
  refine wpAny_List_spliced (thn (h pos pins s σ H _ I hq) fun us s1 ⟨xs, H1, I1, r, z, q⟩ => ⟨by rw [← r.length]; exact z, ?_⟩)
  have hf : H1 s1.heap.objs.size = none := I1.hok.fresh (Nat.le_refl _)
  refine ⟨.ref s1.heap.objs.size, upd H1 s1.heap.objs.size (.lst xs), I1.laid (t' := s1.toks) (fun b u e => Heap.get?_push_of_some _ e) (Nat.le_refl _) ?_, rfl, q _ hf⟩
  exact ⟨z, us, 0, r, Heap.get?_push_size _ rfl⟩
end

/-! ### what a def promises -/
/-- a def's promise: the bound arguments in the parameters' order, the heap, the wanted end, the wanted exception -/
abbrev Sp := List V → Hp → VK → XK → Prop
/-- how an exception lies behind a call (file 08 gives it): the callers' frames, abstract heap and state ahead of the call, the wish, the exception, the state -/
abbrev CXT := List Env → Hp → Shared → XK → Value → Shared → Prop

/-- the state at a call -/
structure Env0 (P : Program) (w : World) (K : PySem.W.Frag) (mg : Str → Option Value) (base : Heap) (A : Around) (outer : List Env) (s : Shared) (H : Hp) : Prop where
  frames : A.frames = some outer
  mod : Mod K mg base
  bs : ∀ b o, base.get? b = some o → s.heap.get? b = some o ∧ H b = none
  bsz : base.objs.size ≤ s.heap.objs.size
  funs : s.heap.FunFrames base outer
  frf : ∀ b ∈ frs outer, H b = none
  hok : HOk P w H s.heap
  bare : AllBare s.gens
/-- a call's end -/
def CE (outer : List Env) (P : Program) (w : World) (H : Hp) (s : Shared) (Q : VK) (u : Value) (s' : Shared) : Prop :=
  ∃ v H', s'.os = s.os ∧ AllBare s'.gens ∧ Un (frs outer) [] H H' s.heap s'.heap ∧ HOk P w H' s'.heap ∧ RelV v u ∧ Q v H'
def CR (CX : CXT) (outer : List Env) (P : Program) (w : World) (H : Hp) (s : Shared) (Q : VK) (E : XK) (r : Result) (s' : Shared) : Prop :=
  match r with
  | .ok (.ret u) => CE outer P w H s Q u s'
  | .ok _ => False
  | .error e => CX outer H s E e s'
structure FnOk (P : Program) (w : World) (K : PySem.W.Frag) (mg : Str → Option Value) (base : Heap) (CX : CXT) (k : Nat) (f : Addr) (fd : FuncData) (ps : List Str) (sp : Sp) : Prop where
  len : ∀ vs H Q E, sp vs H Q E → vs.length = ps.length
  run : ∀ (A : Around) (outer : List Env) (s : Shared) (H : Hp) (args : Args) (us : List Value) (vs : List V) (Q : VK) (E : XK), Room k A → Env0 P w K mg base A outer s H → BindsTo s fd args (ps.zip us) → Vals vs us → sp vs H Q E →
    codeAny (model P w) A (.call (.ref f) args) (CR CX outer P w H s Q E) s
theorem FnOk.mono {P : Program} {w : World} {K : PySem.W.Frag} {mg : Str → Option Value} {base : Heap} {CX : CXT} {j k : Nat} {f : Addr} {fd : FuncData} {ps : List Str} {sp : Sp} (F : FnOk P w K mg base CX j f fd ps sp) (h : j ≤ k) :
    FnOk P w K mg base CX k f fd ps sp := ⟨F.len, fun A outer s H args us vs Q E hr => F.run A outer s H args us vs Q E (hr.mono h)⟩
theorem Env0.in1 {P : Program} {w : World} {K : PySem.W.Frag} {mg : Str → Option Value} {base : Heap} {A : Around} {outer : List Env} {s : Shared} {H : Hp} (e : Env0 P w K mg base A outer s H) :
    Env0 P w K mg base A.in1 outer s H := ⟨e.frames, e.mod, e.bs, e.bsz, e.funs, e.frf, e.hok, e.bare⟩

section
variable {X : Cx} {pins : List (Addr × Obj)} {σ : St} {H : Hp} {s s' : Shared}
/-- from a body: what a callee wants -/
theorem Inv.env0 (I : Inv X pins σ H s) : Env0 X.prog X.w X.K X.mg X.base X.A X.stack s H :=
  ⟨I.ok.frames, I.ok.mod, I.bs, Nat.le_trans I.ok.bsz I.sz, I.stack, I.stkFree, I.hok, I.bare⟩
/-- behind a call -/
theorem Inv.after {Q : VK} {u : Value} (I : Inv X pins σ H s) (h : CE X.stack X.prog X.w H s Q u s') : EP X pins σ Q u s' := by
  obtain ⟨v, H', os, bare, un, hok, r, q⟩ := h
  obtain ⟨hh, g, d, t, os'⟩ := s'
  obtain rfl : os' = s.os := os
  exact ⟨v, H', I.call (h' := hh) (g' := g) (d' := d) (t' := t) (ch := []) un hok bare (fun b z => absurd z (by simp)), r, q⟩
end

/-! ### calls -/
/-- f(..): the written arguments, then the defaults dvs; E: what is wanted of an exception -/
def tCall (sp : Sp) (dvs : List V) (E : XK) (t : TA) : TE := fun σ H Q => t σ H fun vs H1 => sp (vs ++ dvs) H1 Q E
/-- how the parameters are bound: us the positional arguments, kw the keywords' values by name, ds the defaults that fill up -/
def Binds (K : PySem.W.Frag) (fd : FuncData) (ps : List Str) (ds : List Value) : Prop :=
  ∀ (s : Shared) (us : List Value), K.In s.heap → (us ++ ds).length = ps.length → BindsTo s fd ⟨us, []⟩ (ps.zip (us ++ ds))
/-- every parameter is given -/
theorem Binds.all {K : PySem.W.Frag} {fd : FuncData} {ps : List Str} (h : ∀ us : List Value, us.length = ps.length → bindArgs fd ⟨us, []⟩ = pure (ps.zip us)) : Binds K fd ps [] := fun s us _ hl => by
  rw [List.append_nil] at hl ⊢
  exact .of_eq (h us hl)

/-- an exception of a callee reaches what this body wants of exceptions -/
def Passes (CX : CXT) (X : Cx) (E : XK) : Prop := ∀ (pins : List (Addr × Obj)) (σ : St) (H : Hp) (s : Shared) (e : Value) (s' : Shared), Inv X pins σ H s → CX X.stack H s E e s' → X.xe e s'

section
variable {X : Cx} {CX : CXT} {k : Nat} {f C : Addr} {fd : FuncData} {ps : List Str} {sp : Sp} {dvs : List V} {ds : List Value} {E : XK} {x m : Str} {p pos apos : Pos} {e o : Expr} {es : List Expr} {ta : TE} {t : TA}

/-- the callee runs -/
theorem run_fn {pins : List (Addr × Obj)} {σ : St} {H : Hp} {s : Shared} {Q : VK} {us : List Value} {vs : List V} (F : FnOk X.prog X.w X.K X.mg X.base CX k f fd ps sp) (hr : Room k X.A) (hb : Binds X.K fd ps ds) (hd : Vals dvs ds) (hx : Passes CX X E)
    (I : Inv X pins σ H s) (r : Vals vs us) (h : sp (vs ++ dvs) H Q E) : wpAny (model X.prog X.w) X.A (call (.ref f) us) (EP X pins σ Q) X.xe s := by
  have r2 : Vals (vs ++ dvs) (us ++ ds) := r.append hd
  have hl : (us ++ ds).length = ps.length := by rw [← r2.length]; exact F.len _ _ _ _ h
  refine wpAny_call (codeAny_mono (F.run X.A X.stack s H ⟨us, []⟩ (us ++ ds) (vs ++ dvs) Q E hr I.env0 (hb s us I.kIn hl) r2 h) fun r s' hq => ?_)
  cases r with
  | error e => exact hx pins σ H s e s' I hq
  | ok fl =>
    cases fl with
    | ret u => exact I.after hq
    | next => exact False.elim hq
    | brk => exact False.elim hq
    | cont => exact False.elim hq

theorem pe_call (F : FnOk X.prog X.w X.K X.mg X.base CX k f fd ps sp) (hr : Room k X.A) (hg : Gl X x) (hm : X.mg x = some (.ref f)) (hk : PySem.W.keepIn X.K (.ref f) = true) (hb : Binds X.K fd ps ds) (hd : Vals dvs ds) (hx : Passes CX X E)
    (ha : PA X (e :: es) t) (hdb : (x == ("__debug__" : Str)) = false := by decide) (he : starEach (e :: es) X.env = (false, eval e X.env) :: starEach es X.env := by rfl) (hpl : (backTo pos (starEach es X.env)).any (·.1) = false := by rfl) :
    PE X (.Call (.Name x p) (e :: es) [] pos) (tCall sp dvs E t) := by
  intro pins s σ H Q I h
  refine wpAny_Call_Name_kw (ld_glob I hg hm ?_ hdb)
  refine PySem.W.callWith_K (h₀ := X.base) I.ok.mod.kin hk (thn (ha pos pins s σ H _ I h) fun us s1 ⟨vs, H1, I1, r, q⟩ => ⟨I1.kIn, ?_⟩) he hpl
  exact run_fn F hr hb hd hx I1 r q
/-- what a class must have to be made -/
structure Mk (K : PySem.W.Frag) (C f : Addr) : Prop where
  makes : PySem.W.makesIn K C = true
  init : PySem.W.findIn K (.ref C) "__init__" = some (some (.ref f))
  fn : PySem.W.isFn K (.ref f) = true
  kp : PySem.W.keepIn K (.ref C) = true

end

/-! ### keywords -/
section
variable {X : Cx} {CX : CXT} {k : Nat} {f C : Addr} {fd : FuncData} {ps ks : List Str} {sp : Sp} {E : XK} {x m : Str} {p pos apos kpos : Pos} {e o : Expr} {es : List Expr} {kws : List Keyword} {te ta : TE} {t tk : TA} {nm : Option Str}
/-- how a call with keywords binds: g puts the positional values us and the keywords' values ws (names ks) in the parameters' order, defaults among them -/
structure KBinds (K : PySem.W.Frag) (fd : FuncData) (ps ks : List Str) (g : List Value → List Value → List Value) (gV : List V → List V → List V) : Prop where
  to : ∀ (s : Shared) (us ws : List Value), K.In s.heap → (g us ws).length = ps.length → BindsTo s fd ⟨us, ks.zip ws⟩ (ps.zip (g us ws))
  rel : ∀ {vs : List V} {us : List Value} {zs : List V} {ws : List Value}, Vals vs us → Vals zs ws → Vals (gV vs zs) (g us ws)
variable {g : List Value → List Value → List Value} {gV : List V → List V → List V}
end

/-! ### a def's body keeps its promise -/
/-- names: the parameters first -/
structure FnScope (N P : List Str) (sc : Scope) : Prop where
  kind : sc.kind = .function
  co : sc.isCoroutine = false
  gen : sc.isGenerator = false
  nd : N.Nodup
  pre : N.take P.length = P
  par : ∀ x ∈ P, sc.names.lookup x = some .local ∨ sc.names.lookup x = some .cell
  nofree : ∀ y ∈ sc.names, y.2 ≠ .free

theorem bindL_out {kindOf : Str → Option NameKind} {x : Str} : ∀ {binds : List (Str × Value)} {m : Str → Option Value}, (∀ v, (x, v) ∉ binds) → bindL kindOf binds m x = m x
  | [], _, _ => rfl
  | (n, v) :: r, m, h => by
    unfold bindL
    rw [bindL_out fun w hw => h w (List.mem_cons_of_mem _ hw)]
    split
    · have : x ≠ n := by rintro rfl; exact h v List.mem_cons_self
      simp [this]
    · rfl
theorem bindC_out {kindOf : Str → Option NameKind} {x : Str} : ∀ {binds : List (Str × Value)} {m : Str → Option Value}, (∀ v, (x, v) ∉ binds) → bindC kindOf binds m x = m x
  | [], _, _ => rfl
  | (n, v) :: r, m, h => by
    unfold bindC
    rw [bindC_out fun w hw => h w (List.mem_cons_of_mem _ hw)]
    split
    · rfl
    · have : x ≠ n := by rintro rfl; exact h v List.mem_cons_self
      simp [this]
theorem bindL_get {kindOf : Str → Option NameKind} {x : Str} {v : Value} : ∀ {P : List Str} {vs : List Value} {i : Nat} {m : Str → Option Value}, P.Nodup → P[i]? = some x → vs[i]? = some v → kindOf x = some .local →
    bindL kindOf (P.zip vs) m x = some v
  | [], _, _, _, _, h, _, _ => by simp at h
  | _ :: _, [], _, _, _, _, h, _ => by simp at h
  | p :: P, w :: vs, 0, m, nd, h1, h2, hk => by
    simp at h1 h2; subst h1; subst h2
    show bindL kindOf ((p, w) :: P.zip vs) m p = _
    unfold bindL
    rw [bindL_out fun v hv => (List.nodup_cons.mp nd).1 (List.of_mem_zip hv).1, if_pos hk]
    simp
  | p :: P, w :: vs, i + 1, m, nd, h1, h2, hk => by
    show bindL kindOf ((p, w) :: P.zip vs) m x = _
    unfold bindL
    exact bindL_get (i := i) (List.nodup_cons.mp nd).2 (by simpa using h1) (by simpa using h2) hk
theorem bindC_get {kindOf : Str → Option NameKind} {x : Str} {v : Value} : ∀ {P : List Str} {vs : List Value} {i : Nat} {m : Str → Option Value}, P.Nodup → P[i]? = some x → vs[i]? = some v → kindOf x ≠ some .local →
    bindC kindOf (P.zip vs) m x = some v
  | [], _, _, _, _, h, _, _ => by simp at h
  | _ :: _, [], _, _, _, _, h, _ => by simp at h
  | p :: P, w :: vs, 0, m, nd, h1, h2, hk => by
    simp at h1 h2; subst h1; subst h2
    show bindC kindOf ((p, w) :: P.zip vs) m p = _
    unfold bindC
    rw [bindC_out fun v hv => (List.nodup_cons.mp nd).1 (List.of_mem_zip hv).1, if_neg hk]
    simp
  | p :: P, w :: vs, i + 1, m, nd, h1, h2, hk => by
    show bindC kindOf ((p, w) :: P.zip vs) m x = _
    unfold bindC
    exact bindC_get (i := i) (List.nodup_cons.mp nd).2 (by simpa using h1) (by simpa using h2) hk

/-- the names' values at the entry -/
def start (N : List Str) (vs : List V) : St := vs.map some ++ List.replicate (N.length - vs.length) none

/-- the context of a def's body, at its entry; an exception leaves the frame, then lies as CX says -/
def cxOf (CX : CXT) (P : Program) (w : World) (K : PySem.W.Frag) (mg : Str → Option Value) (base : Heap) (N : List Str) (qual : Str) (scope : Scope) (f : Addr) (cd : Value) (A : Around) (outer : List Env) (s : Shared) (H : Hp) (E : XK) : Cx where
  prog := P
  w := w
  K := K
  mg := mg
  base := base
  A := A.deeper (envOfC qual scope s.heap.objs.size f cd)
  N := N
  s₀ := s
  H₀ := H
  env := envOfC qual scope s.heap.objs.size f cd
  outer := outer
  stack := envOfC qual scope s.heap.objs.size f cd :: outer
  ex := []
  calm := true
  fn := fun _ => true
  pn := []
  xe := fun e s' => wpAny (model P w) (A.deeper (envOfC qual scope s.heap.objs.size f cd)) (leaving (envOfC qual scope s.heap.objs.size f cd) e) (fun _ s'' => CX outer H s E e s'') (fun e' s'' => CX outer H s E e' s'') s'

theorem cell_has {sc : Scope} {n : Nat} {x : Str} (h : sc.names.lookup x = some .cell) : ∃ c, (cellsFrom n sc.names []).lookup x = some c := by
  have q := PySem.W.cellsFrom_some sc.names n [] (.inl h)
  exact Option.isSome_iff_exists.mp q

theorem inv_start {CX : CXT} {P : Program} {w : World} {K : PySem.W.Frag} {mg : Str → Option Value} {base : Heap} {N ps : List Str} {qual : Str} {scope : Scope} {f : Addr} {cd : Value} {A : Around} {outer : List Env} {s s1 : Shared} {H : Hp} {E : XK} {us : List Value} {vs : List V}
    (S : FnScope N ps scope) (hd : A.handled = none) (e0 : Env0 P w K mg base A outer s H) (hl : vs.length = ps.length) (r : Vals vs us)
    (x : InCallC s s.heap.objs.size (bindL (envOfC qual scope s.heap.objs.size f cd).kindOf (ps.zip us) fun _ => none) (cellsFrom (s.heap.objs.size + 1) scope.names []) (bindC (envOfC qual scope s.heap.objs.size f cd).kindOf (ps.zip us) fun _ => none) s1) :
    Inv (cxOf CX P w K mg base N qual scope f cd A outer s H E) [] (start N vs) H s1 := by
  have hpl : ps.length ≤ N.length := by have := congrArg List.length S.pre; rw [List.length_take] at this; omega
  obtain ⟨h1, tk, rfl, hk⟩ := x.done
  have noA : ∀ b : Addr, b ∉ (cxOf CX P w K mg base N qual scope f cd A outer s H E).ex := fun b z => absurd (show b ∈ ([] : List Addr) from z) (by simp)
  refine ⟨⟨e0.mod, S.kind, rfl, rfl, Nat.le_refl _, fun y z c h1 h2 => ?_, fun y hy => ?_, fun y c _ h => ?_, fun _ => hd, Around.frames_deeper e0.frames, .inr ⟨rfl, rfl⟩, fun b z => absurd z (noA b), e0.bs, e0.bsz, fun b _ _ => noA b, fun b z => absurd z (noA b), e0.funs, e0.frf⟩,
    rfl, e0.bare, Un.kept hk, ⟨_, x.toInCall.ns, fun i y v h1 h2 h3 => ?_⟩, fun y c h => ⟨_, x.cell y c h⟩, e0.hok.fresh (Nat.le_refl _), fun y c h => ?_, fun p hp => absurd (show p ∈ ([] : List (Addr × Obj)) from hp) (by simp), e0.hok.kept hk, ?_⟩
  · exact name_of_addr x.apart (PySem.mem_of_lookup h1) (PySem.mem_of_lookup h2)
  · have hy : scope.names.lookup y = some .cell ∨ scope.names.lookup y = some .free := hy
    rcases hy with hy | hy
    · exact cell_has hy
    · exact absurd rfl (S.nofree _ (PySem.mem_of_lookup hy))
  · exact Nat.le_of_lt (x.above y c (PySem.mem_of_lookup h))
  · have hi : i < vs.length := by
      unfold start at h2
      by_cases hi : i < vs.length
      · exact hi
      · rw [List.getElem?_append_right (by simpa using hi)] at h2
        rw [List.getElem?_replicate] at h2
        split at h2 <;> cases h2
    have ha : vs[i]? = some v := by
      unfold start at h2
      rw [List.getElem?_append_left (by simpa using hi), List.getElem?_map] at h2
      cases e : vs[i]? with
      | none => rw [e] at h2; cases h2
      | some a => rw [e] at h2; cases h2; rfl
    obtain ⟨u, hu, rv⟩ := r.get ha
    have hp : ps[i]? = some y := by
      rw [← S.pre, List.getElem?_take_of_lt (by omega)]; exact h1
    have ndP : ps.Nodup := by rw [← S.pre]; exact S.nd.sublist (List.take_sublist _ _)
    refine ⟨u, rv, ?_⟩
    rcases S.par y (List.mem_of_getElem? hp) with k | k
    · exact .inl ⟨k, bindL_get ndP hp hu k⟩
    · obtain ⟨c, e⟩ := cell_has (n := s.heap.objs.size + 1) k
      refine .inr ⟨.inl k, c, e, ?_⟩
      have q := x.cell y c e
      rw [bindC_get ndP hp hu (by show scope.names.lookup y ≠ _; rw [k]; decide)] at q
      exact q
  · exact e0.hok.fresh (Nat.le_of_lt (x.above y c (PySem.mem_of_lookup h)))
  · unfold start
    show _ = N.length
    rw [List.length_append, List.length_map, List.length_replicate]
    omega

/-- THE RULE: a def (or a method) of the text, by its body. The body's reading t is chosen for each entry; it is run at the parameters' values -/
theorem fn_of {CX : CXT} {P : Program} {w : World} {K : PySem.W.Frag} {mg : Str → Option Value} {base : Heap} {k : Nat} {f : Addr} {name qual : Str} {params : Arguments} {body : List Stmt} {scope : Scope} {dV kV doc pm cdv ct oc : Value} {an od : Option Addr}
    {osl : Array (Option Value)} {N ps : List Str} {sp : Sp} (lk : K.lookup f = some ⟨oc, od, .func (PySem.W.fnOf name qual params body scope dV kV doc pm an cdv ct), osl⟩) (hcd : PySem.W.codeIn K cdv qual = true) (S : FnScope N ps scope)
    (len : ∀ vs H Q E, sp vs H Q E → vs.length = ps.length)
    (hbody : ∀ (A : Around) (outer : List Env) (s : Shared) (H : Hp) (vs : List V) (Q : VK) (E : XK), Room k (A.deeper (envOfC qual scope s.heap.objs.size f cdv)) → sp vs H Q E →
      ∃ t, PSs (cxOf CX P w K mg base N qual scope f cdv A outer s H E) body t ∧ t { nx := fun _ H' => Q .non H', rt := Q } (start N vs) H) :
    FnOk P w K mg base CX (k + 1) f (PySem.W.fnOf name qual params body scope dV kV doc pm an cdv ct) ps sp := by
  refine ⟨len, fun A outer s H args us vs Q E hr e0 hb r hsp => ?_⟩
  have hl := len _ _ _ _ hsp
  have KX : K.In s.heap := e0.mod.kin.keeps fun b o e => (e0.bs b o e).1
  have lim : s.heap.NoLimit := e0.mod.nolimit.keeps fun b o e => (e0.bs b o e).1
  have hkind : ∀ y ∈ ps.zip us, scope.names.lookup y.1 = some .local ∨ (scope.names.lookup y.1 = some .cell ∧ ((cellsFrom (s.heap.objs.size + 1) scope.names []).lookup y.1).isSome = true) := fun ⟨n, v⟩ hy => by
    rcases S.par n (List.of_mem_zip hy).1 with q | q
    · exact .inl q
    · exact .inr ⟨q, PySem.W.cellsFrom_some _ _ _ (.inl q)⟩
  refine codeAny_call_function hr.depth (KX _ _ lk) rfl S.co S.gen rfl (PySem.W.codeRec_of KX hcd) (hb _ _ _ _ ?_)
  refine wpAny_newFunctionEnv_cells S.kind hkind fun env he s1 x => ?_
  subst he
  refine ⟨lim.keeps x.toInCall.keep, codeAny_func ?_⟩
  obtain ⟨t, ht, hq⟩ := hbody A outer s H vs Q E (hr.deeper _) hsp
  have I : Inv (cxOf CX P w K mg base N qual scope f cdv A outer s H E) [] (start N vs) H s1 := inv_start S hr.hd e0 hl r x
  refine wpAny_mono (ht [] s1 (start N vs) H _ I hq) (fun fl s' hs => ?_) fun e s' hs => hs
  have fin : ∀ {σ' : St} {H' : Hp} {v : V} {u : Value}, Inv (cxOf CX P w K mg base N qual scope f cdv A outer s H E) [] σ' H' s' → RelV v u → Q v H' → CE outer P w H s Q u s' :=
    fun {σ' H' v u} J rv q => ⟨v, H', J.os, J.bare, J.base, J.hok, rv, q⟩
  cases fl with
  | ret u =>
    obtain ⟨v, σ', H', J, rv, q⟩ := hs
    exact fin J rv q
  | next =>
    obtain ⟨σ', H', J, q⟩ := hs
    exact fin (v := V.non) (u := Value.none) J rfl q
  | brk =>
    obtain ⟨_, _, _, q⟩ := hs
    exact False.elim q
  | cont =>
    obtain ⟨_, _, _, q⟩ := hs
    exact False.elim q
end L2

namespace L2
open PySem PySem.Spec PyProof.Rows
section
variable {X : Cx} {x : Str} {p pos : Pos} {e : Expr} {es : List Expr} {t : TA} {id T : String} {r : List V → Hp → VK → Prop}

def tCB (r : List V → Hp → VK → Prop) (t : TA) : TE := fun σ H Q => t σ H fun vs H1 => r vs H1 Q
/-- f(e, ..), f a built-in function -/
theorem pe_callB (hc : CallR X (.builtin id) r) (hg : Gl X x) (hm : X.mg x = none) (hv : bootBuiltins x = some (.builtin id)) (ha : PA X (e :: es) t) (hn : x ≠ "__name__" := by decide) (hdb : (x == ("__debug__" : Str)) = false := by decide)
    (he : starEach (e :: es) X.env = (false, eval e X.env) :: starEach es X.env := by rfl) (hpl : (backTo pos (starEach es X.env)).any (·.1) = false := by rfl) : PE X (.Call (.Name x p) (e :: es) [] pos) (tCB r t) := by
  intro pins s σ H Q I h
  refine wpAny_Call_Name_kw (ld_blt I hg hm hv ?_ hn hdb)
  exact PyProof.Rows.callWith_builtin1 (thn (ha pos pins s σ H _ I h) fun us s1 ⟨vs, H1, I1, r1, q1⟩ => hc pins s1 σ H1 vs us Q I1 r1 q1) he hpl
/-- T(e, ..), T a built-in type -/
theorem pe_callTy (hc : CallR X (.type T) r) (hg : Gl X x) (hm : X.mg x = none) (hv : bootBuiltins x = some (.type T)) (ha : PA X (e :: es) t) (hn : x ≠ "__name__" := by decide) (hdb : (x == ("__debug__" : Str)) = false := by decide)
    (he : starEach (e :: es) X.env = (false, eval e X.env) :: starEach es X.env := by rfl) (hpl : (backTo pos (starEach es X.env)).any (·.1) = false := by rfl) : PE X (.Call (.Name x p) (e :: es) [] pos) (tCB r t) := by
  intro pins s σ H Q I h
  refine wpAny_Call_Name_kw (ld_blt I hg hm hv ?_ hn hdb)
  exact PyProof.Rows.callWith_type1 (thn (ha pos pins s σ H _ I h) fun us s1 ⟨vs, H1, I1, r1, q1⟩ => hc pins s1 σ H1 vs us Q I1 r1 q1) he hpl
end
end L2

namespace HT
open PySem PyProof.Rows

section
open PySem.SeqAt
open PySem.AutoSeq1 (wpAny_loadPart')
open PySem.MeetsSeq PySem.MeetsSeq2 PySem.MeetsSeq3

end

section
variable {prog : Program} {w : World} {A : Around} {E : Value → Shared → Prop} {s : Shared}

/-! ### t[a:b], not the whole -/
/-- a slice's bound as a place among n (d where it is left out) -/
def sIx (n d : Nat) : Option Int → Nat
  | none => d
  | some v => if v < 0 then (v + (n : Int)).toNat else min v.toNat n
theorem sIx_le (n d : Nat) (hd : d ≤ n) (o : Option Int) : sIx n d o ≤ n := by
  cases o with
  | none => exact hd
  | some v =>
    show (if v < 0 then (v + (n : Int)).toNat else min v.toNat n) ≤ n
    by_cases hv : v < 0
    · rw [if_pos hv]; omega
    · rw [if_neg hv]; exact Nat.min_le_right _ _
end
end HT

namespace L2
open PySem PySem.Spec PyProof.Rows

/-! ### the parts of a slice -/
abbrev TO := St → Hp → (Option Int → Hp → Prop) → Prop
/-- a slice's part (left out, or an int) -/
def PO (X : Cx) (e : Option Expr) (t : TO) : Prop :=
  ∀ (pins : List (Addr × Obj)) (s : Shared) (σ : St) (H : Hp) (Q : Option Int → Hp → Prop), Inv X pins σ H s → t σ H Q →
    wpAny (model X.prog X.w) X.A (evalPart e X.env) (fun u s' => ∃ o H', Inv X pins σ H' s' ∧ IsPart u o ∧ Q o H') X.xe s
def tNoPart : TO := fun _ H Q => Q none H
def tPart (t : TE) : TO := fun σ H Q => t σ H fun x H1 => ∃ i, x = .int i ∧ Q (some i) H1

section
variable {X : Cx} {e : Expr} {te : TE} {lo hi : Option Expr} {tl th : TO} {pos p2 : Pos}

theorem po_none : PO X none tNoPart := by
  intro pins s σ H Q I h
  rw [evalPart_none]
  exact wpAny_pure ⟨none, H, I, .none, h⟩
theorem po_some (h : PE X e te) : PO X (some e) (tPart te) := by
  intro pins s σ H Q I hw
  rw [evalPart_some]
  refine thn (h pins s σ H _ I hw) fun u s1 ⟨x, H1, I1, r1, q1⟩ => ?_
  obtain ⟨i, rfl, q⟩ := q1
  obtain ⟨t, rfl⟩ := r1
  exact ⟨some i, H1, I1, .int i t, q⟩

/-- what a slice of a value is, by values: the slice object stands at sl -/
def SlR (X : Cx) (r : V → Option Int → Option Int → Hp → VK → Prop) : Prop :=
  ∀ (pins : List (Addr × Obj)) (s : Shared) (σ : St) (H : Hp) (x : V) (v vl vu : Value) (lo hi : Option Int) (sl : Addr) (Q : VK), Inv X pins σ H s → RelV x v → s.heap.IsSliceOf sl vl vu .none → IsPart vl lo → IsPart vu hi → r x lo hi H Q →
    ∃ T id, typeLookup (.type T) "__getitem__" = pure (some (.builtin id)) ∧ s.TypeIs v T ∧ wpAny (model X.prog X.w) X.A (getItem v (.ref sl)) (EP X pins σ Q) X.xe s
theorem SlR.or {r r' : V → Option Int → Option Int → Hp → VK → Prop} (h : SlR X r) (h' : SlR X r') : SlR X (fun x lo hi H Q => r x lo hi H Q ∨ r' x lo hi H Q) := by
  intro pins s σ H x v vl vu lo hi sl Q I rx hs pl pu q
  rcases q with q | q
  · exact h pins s σ H x v vl vu lo hi sl Q I rx hs pl pu q
  · exact h' pins s σ H x v vl vu lo hi sl Q I rx hs pl pu q
def tSl (r : V → Option Int → Option Int → Hp → VK → Prop) (te : TE) (tl th : TO) : TE := fun σ H Q => te σ H fun x H1 => tl σ H1 fun l H2 => th σ H2 fun u H3 => r x l u H3 Q
/-- a[lo:hi], any a -/
theorem pe_slice {r : V → Option Int → Option Int → Hp → VK → Prop} (hr : SlR X r) (he : PE X e te) (hl : PO X lo tl) (hu : PO X hi th) : PE X (.Subscript e (.Slice lo hi none p2) pos) (tSl r te tl th) := by
  intro pins s σ H Q I h
  refine Subscript_ (thn (he pins s σ H _ I h) fun v s1 ⟨x, H1, I1, r1, q1⟩ => ?_)
  refine wpAny_Slice (thn (hl pins s1 σ H1 _ I1 q1) fun vl s2 ⟨l, H2, I2, pl, q2⟩ => thn (hu pins s2 σ H2 _ I2 q2) fun vu s3 ⟨u, H3, I3, pu, q3⟩ => ?_)
  rw [evalPart_none]
  refine wpAny_pure ?_
  have I4 : Inv X pins σ H3 { s3 with heap := s3.heap.push { cls := .type "slice", data := .fields #[vl, vu, .none] } } := I3.kept (t' := s3.toks) fun b ob q => Heap.get?_push_of_some _ q
  obtain ⟨T, id, hT, ht, hg⟩ := hr pins { s3 with heap := s3.heap.push { cls := .type "slice", data := .fields #[vl, vu, .none] } } σ H3 x v vl vu l u s3.heap.objs.size Q I4 r1 (Heap.IsSliceOf.new ..) pl pu q3
  show wpAny (model X.prog X.w) X.A (subscriptTail e (.Slice lo hi none p2) v (.ref s3.heap.objs.size)) (EP X pins σ Q) X.xe { s3 with heap := s3.heap.push { cls := .type "slice", data := .fields #[vl, vu, .none] } }
  exact tail_any (ops := [.ref s3.heap.objs.size, v]) ht hT hg (by with_unfolding_all rfl)

/-- the items of xs[lo:hi] -/
def cutV (xs : List V) (lo hi : Option Int) : List V := (xs.drop (HT.sIx xs.length 0 lo)).take (HT.sIx xs.length xs.length hi - HT.sIx xs.length 0 lo)
theorem cutV_length (xs : List V) (lo hi : Option Int) : (cutV xs lo hi).length ≤ xs.length := by
  unfold cutV
  rw [List.length_take, List.length_drop]
  omega
/-! ### t < u, t + u -/
end
end L2

namespace L2
open PySem PySem.Spec PyProof.Rows

/-! ### places -/
/-- the place that an index of any sign means -/
def ixN (n : Nat) (i : Int) : Option Nat := if 0 ≤ i then (if i < n then some i.toNat else none) else if -(n : Int) ≤ i then some (i + n).toNat else none
def atI {α : Type} (xs : List α) (i : Int) : Option α := (ixN xs.length i).bind fun j => xs[j]?
theorem ixN_seq {n : Nat} {i : Int} {j : Nat} (h : ixN n i = some j) : seqIndex? i n = some j ∧ j < n ∧ -(n : Int) ≤ i ∧ i < n := by
  unfold ixN at h
  by_cases h0 : 0 ≤ i
  · rw [if_pos h0] at h
    by_cases h1 : i < n
    · rw [if_pos h1] at h
      have e : i.toNat = j := Option.some.inj h
      exact ⟨by rw [seqIndex_of h0 h1, e], by omega, by omega, h1⟩
    · rw [if_neg h1] at h; cases h
  · rw [if_neg h0] at h
    by_cases h1 : -(n : Int) ≤ i
    · rw [if_pos h1] at h
      have e : (i + n).toNat = j := Option.some.inj h
      exact ⟨by rw [seqIndex_neg (by omega) h1, e], by omega, h1, by omega⟩
    · rw [if_neg h1] at h; cases h
theorem atI_get {α : Type} {xs : List α} {i : Int} {v : α} (h : atI xs i = some v) : ∃ j, seqIndex? i xs.length = some j ∧ xs[j]? = some v ∧ j < xs.length ∧ -(xs.length : Int) ≤ i ∧ i < xs.length := by
  unfold atI at h
  cases e : ixN xs.length i with
  | none => rw [e] at h; cases h
  | some j =>
    rw [e] at h
    obtain ⟨h1, h2, h3, h4⟩ := ixN_seq e
    exact ⟨j, h1, h, h2, h3, h4⟩
theorem atI_nat {α : Type} {xs : List α} {j : Nat} {v : α} (h : xs[j]? = some v) : atI xs (j : Int) = some v := by
  have hj : j < xs.length := (List.getElem?_eq_some_iff.mp h).1
  have e : ixN xs.length (j : Int) = some j := by
    unfold ixN
    rw [if_pos (by omega), if_pos (by omega)]; simp
  unfold atI; rw [e]; exact h
theorem atI_last {α : Type} (xs : List α) (v : α) : atI (xs ++ [v]) (-1) = some v := by
  have hl : (xs ++ [v]).length = xs.length + 1 := by simp
  have e : ixN (xs ++ [v]).length (-1) = some xs.length := by
    unfold ixN
    rw [hl, if_neg (by decide), if_pos (by omega)]
    congr 1
    omega
  unfold atI
  rw [e]
  show (xs ++ [v])[xs.length]? = some v
  simp

/-! ### what may be subscripted -/
/-- what stands as an index of a plain subscript -/
def PlainIx (b : Expr) : Prop := ∀ o i, subscripted b false o i = operate [o, i] (getItem o i)
/-- a subscript by values -/
def IxR (X : Cx) (r : R2) : Prop :=
  ∀ (value slice : Expr) (pins : List (Addr × Obj)) (s : Shared) (σ : St) (H : Hp) (x y : V) (v u : Value) (Q : VK), Inv X pins σ H s → RelV x v → RelV y u → r x y H Q →
    subscripted slice false v u = operate [v, u] (getItem v u) → wpAny (model X.prog X.w) X.A (subscriptTail value slice v u) (EP X pins σ Q) X.xe s
/-- a call of a builtin's method by values: the receiver, the arguments -/
def MtR (X : Cx) (id : String) (r : V → List V → Hp → VK → Prop) : Prop :=
  ∀ (pins : List (Addr × Obj)) (s : Shared) (σ : St) (H : Hp) (x : V) (xs : List V) (v : Value) (us : List Value) (Q : VK), Inv X pins σ H s → RelV x v → Vals xs us → r x xs H Q →
    wpAny (model X.prog X.w) X.A (call (.builtin id) (v :: us)) (EP X pins σ Q) X.xe s
section
variable {X : Cx} {a b : Expr} {ta tb : TE} {pos : Pos}
theorem IxR.or {r r' : R2} (h : IxR X r) (h' : IxR X r') : IxR X (fun x y H Q => r x y H Q ∨ r' x y H Q) := by
  intro value slice pins s σ H x y v u Q I rx ry q hs
  rcases q with q | q
  · exact h value slice pins s σ H x y v u Q I rx ry q hs
  · exact h' value slice pins s σ H x y v u Q I rx ry q hs
theorem MtR.or {id : String} {r r' : V → List V → Hp → VK → Prop} (h : MtR X id r) (h' : MtR X id r') : MtR X id (fun x xs H Q => r x xs H Q ∨ r' x xs H Q) := by
  intro pins s σ H x xs v us Q I rx rs q
  rcases q with q | q
  · exact h pins s σ H x xs v us Q I rx rs q
  · exact h' pins s σ H x xs v us Q I rx rs q
/-- a[b] -/
theorem pe_ix {r : R2} (hr : IxR X r) (ha : PE X a ta) (hb : PE X b tb) (hs : PlainIx b) : PE X (.Subscript a b pos) (tOp r ta tb) := by
  intro pins s σ H Q I h
  exact Subscript_ (binT ha hb I h fun v u s2 x y H2 I2 rx ry q => hr a b pins s2 σ H2 x y v u Q I2 rx ry q (hs _ _))

def rIxL (K : PySem.W.Frag) : R2 := fun x y H Q => ∃ p xs i v, x = .ref p ∧ y = .int i ∧ SqL K H p xs ∧ atI xs i = some v ∧ Q v H
def rIxS : R2 := fun x y H Q => ∃ z i c, x = .str z ∧ y = .int i ∧ z.length ≤ sizeLine ∧ atI z.cps.toList i = some c ∧ Q (.str ⟨#[c]⟩) H
theorem ix_list : IxR X (rIxL X.K) := by
  intro value slice pins s σ H x y v u Q I rx ry h hs
  obtain ⟨p, xs, i, z, rfl, rfl, hq, he, q⟩ := h
  cases rx
  obtain ⟨t, rfl⟩ := ry
  obtain ⟨its, r, pl, hz⟩ := I.list hq
  obtain ⟨j, h1, h2, h3, h4, h5⟩ := atI_get he
  obtain ⟨w, ew, rw'⟩ := r.get h2
  have hl := r.length
  have hn := line63
  have fin : EP X pins σ Q w s := ⟨z, H, I, rw', q⟩
  by_cases h0 : 0 ≤ i
  · have hj : i.toNat = j := by
      rw [seqIndex_of h0 h5] at h1
      exact Option.some.inj h1
    exact item_listR pl.isList h0 (by omega) (by rw [hj]; simpa using ew) fin hs
  · have hj : (i + (its.toArray.size : Int)).toNat = j := by
      rw [seqIndex_neg (by omega) h4] at h1
      rw [List.size_toArray, ← hl]
      exact Option.some.inj h1
    exact subscriptTail_builtinR (x := w) pl.isList.typeIs slot_list_getitem.lookup
      (wpAny_getItem_list_neg (Q := fun r s' => r = w ∧ EP X pins σ Q r s') pl.isList (by omega) (by rw [List.size_toArray] <;> omega) (by omega) (by rw [hj]; simpa using ew) ⟨rfl, fin⟩) hs
theorem ix_str : IxR X rIxS := by
  intro value slice pins s σ H x y v u Q I rx ry h hs
  obtain ⟨z, i, c, rfl, rfl, hz, he, q⟩ := h
  obtain ⟨t, rfl⟩ := rx
  obtain ⟨t', rfl⟩ := ry
  obtain ⟨j, h1, h2, h3, h4, h5⟩ := atI_get he
  have hl : z.cps.toList.length = z.length := by simp [Str.length]
  rw [hl] at h1 h4 h5
  have hn := line63
  exact tail_any (typeIs_str s z t) slot_str_getitem.lookup (getItem_str (c := c) (by
    have e1 : decide (i < -(2 ^ 63 : Int)) = false := decide_eq_false (by omega)
    have e2 : decide (i ≥ 2 ^ 63) = false := decide_eq_false (by omega)
    rw [e1, e2, Bool.or_false]) (by rw [h1]; simpa using h2) ⟨.str ⟨#[c]⟩, H, I.tok _, ⟨_, rfl⟩, q⟩) hs
/-! ### xs[i] = v, any sign -/
theorem Inv.lst {pins : List (Addr × Obj)} {σ : St} {H : Hp} {s : Shared} {p : Addr} {xs : List V} (I : Inv X pins σ H s) (h : H p = some (.lst xs)) :
    ∃ (its : List Value) (n : Nat), Vals xs its ∧ s.heap.get? p = some { cls := .type "list", data := .seq its.toArray n } ∧ xs.length ≤ sizeLine := by
  obtain ⟨z, its, n, r, e⟩ := I.hok p _ h
  exact ⟨its, n, r, e, z⟩
/-! ### slices -/
theorem slice_bounds (lo hi : Option Int) (n : Nat) : (sliceBounds lo hi none n).1 = ((HT.sIx n 0 lo : Nat) : Int) ∧ (sliceBounds lo hi none n).2.1 = ((HT.sIx n n hi : Nat) : Int) ∧ (sliceBounds lo hi none n).2.2 = 1 := by
  refine ⟨?_, ?_, rfl⟩
  · cases lo with
    | none => simp [sliceBounds, HT.sIx]
    | some i =>
      simp only [sliceBounds, HT.sIx, Option.getD_none, show (1 : Int) > 0 by decide, if_true]
      by_cases h : i < 0
      · simp only [h, if_true] <;> omega
      · simp only [h, if_false] <;> omega
  · cases hi with
    | none => simp [sliceBounds, HT.sIx]
    | some i =>
      simp only [sliceBounds, HT.sIx, Option.getD_none, show (1 : Int) > 0 by decide, if_true]
      by_cases h : i < 0
      · simp only [h, if_true] <;> omega
      · simp only [h, if_false] <;> omega
theorem slicePick_cut (its : List Value) (lo hi : Option Int) : slicePick its.toArray lo hi none = ((its.drop (HT.sIx its.length 0 lo)).take (HT.sIx its.length its.length hi - HT.sIx its.length 0 lo)).toArray := by
  obtain ⟨h1, h2, h3⟩ := slice_bounds lo hi its.toArray.size
  unfold slicePick
  rw [h1, h2, h3]
  simp only [sliceRange_one, pick_run, List.size_toArray] <;> rfl
/-- xs[lo:hi] of a list: a new list -/
def rSlL (K : PySem.W.Frag) : V → Option Int → Option Int → Hp → VK → Prop := fun x lo hi H Q => ∃ a xs, x = .ref a ∧ SqL K H a xs ∧ ∀ p, H p = none → Q (.ref p) (upd H p (.lst (cutV xs lo hi)))
theorem sl_list : SlR X (rSlL X.K) := by
  intro pins s σ H x v vl vu lo hi sl Q I rx hs pl pu h
  obtain ⟨a, xs, rfl, hx, q⟩ := h
  cases rx
  obtain ⟨its, r, ht, hz⟩ := I.list hx
  have hlen := r.length
  refine ⟨"list", _, slot_list_getitem.lookup, ht.isList.typeIs, ?_⟩
  refine wpAny_getItem_list_slice ht.isList hs pl pu .none (by simp) ?_ (by rw [List.size_toArray] <;> omega)
  rw [slicePick_cut, ← hlen]
  refine ⟨.ref s.heap.objs.size, _, I.laid (t' := s.toks) (o := .lst (cutV xs lo hi)) (fun b ob q => Heap.get?_push_of_some _ q) (Nat.le_refl _) ?_, rfl, q _ (I.hok.fresh (Nat.le_refl _))⟩
  exact ⟨Nat.le_trans (cutV_length xs lo hi) hz, _, 0, (r.drop (HT.sIx xs.length 0 lo)).take (HT.sIx xs.length xs.length hi - HT.sIx xs.length 0 lo), Heap.get?_push_size _ rfl⟩

/-! ### in, not in: flat items -/
/-! ### len, list(x), tuple(x) of any list or tuple that is read -/
theorem call_len_seq : CallR X (.builtin "len") (fun xs H Q => ∃ p ys, xs = [.ref p] ∧ (SqL X.K H p ys ∨ SqT X.K H p ys) ∧ Q (.int ys.length) H) := by
  intro pins s σ H xs us Q I r h
  obtain ⟨p, ys, rfl, hq, q⟩ := h
  obtain ⟨u, rfl, rx⟩ := vals1 r
  cases rx
  have hn := line63
  rcases hq with hq | hq
  · obtain ⟨its, r', pl, hz⟩ := I.list hq
    have hlen := r'.length
    exact Calls.call_len_list pl.isList (by simp only [List.size_toArray] <;> omega) ⟨.int ys.length, H, I.tok _, ⟨s.toks + 1, by rw [List.size_toArray, hlen]⟩, q⟩
  · obtain ⟨its, r', pl, hz⟩ := I.tuple hq
    have hlen := r'.length
    exact len_tuple pl (by simp only [List.size_toArray] <;> omega) ⟨.int ys.length, H, I.tok _, ⟨s.toks + 1, by rw [List.size_toArray, hlen]⟩, q⟩
theorem call_len_str : CallR X (.builtin "len") (fun xs H Q => ∃ z, xs = [.str z] ∧ z.length ≤ sizeLine ∧ Q (.int z.length) H) := by
  intro pins s σ H xs us Q I r h
  obtain ⟨z, rfl, hz, q⟩ := h
  obtain ⟨u, rfl, t, rfl⟩ := vals1 r
  have hn := line63
  exact len_str (by omega) ⟨.int z.length, H, I.tok _, ⟨_, rfl⟩, q⟩
theorem CallR.or {f : Value} {r r' : List V → Hp → VK → Prop} (h : CallR X f r) (h' : CallR X f r') : CallR X f (fun xs H Q => r xs H Q ∨ r' xs H Q) := by
  intro pins s σ H xs us Q I rs q
  rcases q with q | q
  · exact h pins s σ H xs us Q I rs q
  · exact h' pins s σ H xs us Q I rs q
theorem call_tuple_of : CallR X (.type "tuple") (fun xs H Q => ∃ p ys, xs = [.ref p] ∧ ((SqL X.K H p ys ∧ ∀ l, H l = none → Q (.ref l) (upd H l (.tup ys))) ∨ (SqT X.K H p ys ∧ Q (.ref p) H))) := by
  intro pins s σ H xs us Q I r h
  obtain ⟨p, ys, rfl, h⟩ := h
  obtain ⟨u, rfl, rx⟩ := vals1 r
  cases rx
  rcases h with ⟨hq, q⟩ | ⟨hq, q⟩
  · obtain ⟨its, r', pl, hz⟩ := I.list hq
    have hlen := r'.length
    refine call_tuple_list pl.isList (fun h' kp => ?_) (by simp only [List.size_toArray] <;> omega)
    have I1 : Inv X pins σ H { s with heap := h' } := I.kept (t' := s.toks) kp
    have I2 : Inv X pins σ (upd H h'.objs.size (.tup ys)) { s with heap := h'.push { cls := .type "tuple", data := .seq its.toArray } } :=
      I1.laid (t' := s.toks) (fun b o e => Heap.get?_push_of_some _ e) (Nat.le_refl _) (show ObjOk X.prog X.w _ _ _ (.tup ys) from ⟨hz, its, r', IsTup.new _ _⟩)
    exact ⟨.ref h'.objs.size, _, I2, rfl, q _ (I1.hok.fresh (Nat.le_refl _))⟩
  · obtain ⟨its, r', pl, hz⟩ := I.tuple hq
    exact call_tuple_same pl ⟨.ref p, H, I, rfl, q⟩

/-! ### the call of a builtin's method: o.m(..) -/
/-- the value is of that builtin type -/
def tyV (K : PySem.W.Frag) (T : String) (x : V) (H : Hp) : Prop := match x with
  | .str _ => T = "str"
  | .int _ => T = "int"
  | .ref p => (T = "list" ∧ ∃ xs, SqL K H p xs) ∨ (T = "tuple" ∧ ∃ o, K.lookup p = some o ∧ o.cls = .type "tuple" ∧ o.dict = none) ∨
      (T = "dict" ∧ ((∃ kvs, H p = some (.dK kvs)) ∨ ∃ kvs, H p = some (.dT kvs))) ∨ (T = "set" ∧ ∃ S n, H p = some (.set S n))
  | _ => False
theorem tyV_is {pins : List (Addr × Obj)} {σ : St} {H : Hp} {s : Shared} {T : String} {x : V} {v : Value} (I : Inv X pins σ H s) (r : RelV x v) (ty : tyV X.K T x H) :
    s.TypeIs v T ∧ ∀ a, v = .ref a → ∃ ob, s.heap.get? a = some ob ∧ ob.dict = none := by
  cases x with
  | str z =>
    obtain ⟨t, rfl⟩ := r
    cases (show T = "str" from ty)
    exact ⟨typeIs_str s z t, fun _ e => nomatch e⟩
  | int i =>
    obtain ⟨t, rfl⟩ := r
    cases (show T = "int" from ty)
    exact ⟨typeIs_int s i t, fun _ e => nomatch e⟩
  | ref p =>
    cases r
    rcases ty with ⟨rfl, xs, hq⟩ | ⟨rfl, o, hk, hc, hd⟩ | ⟨rfl, hk⟩ | ⟨rfl, S, n, hk⟩
    · obtain ⟨its, _, pl, _⟩ := I.list hq
      refine ⟨pl.isList.typeIs, fun a e => ?_⟩
      cases e
      obtain ⟨o, n, e, c, hd, _⟩ := pl
      exact ⟨o, e, hd⟩
    · refine ⟨⟨o, I.kIn p o hk, hc⟩, fun a e => ?_⟩
      cases e
      exact ⟨o, I.kIn _ o hk, hd⟩
    · have z : ∃ o, s.heap.get? p = some o ∧ o.ExactDict := by
        rcases hk with ⟨kvs, hk⟩ | ⟨kvs, hk⟩
        · obtain ⟨_, _, _, _, o, _, _, e, ex, _⟩ := I.hok p _ hk
          exact ⟨o, e, ex⟩
        · obtain ⟨_, _, _, _, o, _, _, e, ex, _⟩ := I.hok p _ hk
          exact ⟨o, e, ex⟩
      obtain ⟨o, e, ex⟩ := z
      refine ⟨⟨o, e, ex.1⟩, fun a e2 => ?_⟩
      cases e2
      exact ⟨o, e, ex.2.1⟩
    · obtain ⟨o, _, _, _, e, ex, _⟩ := I.hok p _ hk
      refine ⟨⟨o, e, ex.1⟩, fun a e2 => ?_⟩
      cases e2
      exact ⟨o, e, ex.2.1⟩
  | _ => exact False.elim ty
def tBM (K : PySem.W.Frag) (T : String) (r : V → List V → Hp → VK → Prop) (to : TE) (t : TA) : TE := fun σ H Q => to σ H fun x H1 => tyV K T x H1 ∧ t σ H1 fun xs H2 => r x xs H2 Q
variable {o e : Expr} {es : List Expr} {to : TE} {t : TA} {name : Str} {apos cpos : Pos} {T id : String} {r : V → List V → Hp → VK → Prop}
theorem pe_bm (pa : PlainAttrs T) (slot : Slot T name id) (hty : typeOf (.builtin id) = pure (.type "method_descriptor")) (hm : MtR X id r) (ho : PE X o to) (ha : PA X (e :: es) t)
    (hbase : attributeBase o name X.env (eval o X.env) = eval o X.env := by rfl)
    (hfew : ((backTo cpos (starEach (e :: es) X.env)).all (fun x => !x.1) && (backToKw cpos (keywordEach [] X.env)).all (fun x => x.1.isSome)
      && decide ((e :: es).length + ([] : List Keyword).length + (if ([] : List Keyword).isEmpty then 0 else 1) < 30)) = true := by rfl)
    (hline : (apos.endLine == cpos.line) = true := by rfl) (hs : starEach (e :: es) X.env = (false, eval e X.env) :: starEach es X.env := by rfl) (hplain : (backTo cpos (starEach es X.env)).any (·.1) = false := by rfl) :
    PE X (.Call (.Attribute o name apos) (e :: es) [] cpos) (tBM X.K T r to t) := by
  intro pins s σ H Q I h
  refine wpAny_Call_method_late hbase hfew hline rfl (thn (ho pins s σ H _ I h) fun v s1 ⟨x, H1, I1, r1, ty, q1⟩ => ?_)
  obtain ⟨h1, h2⟩ := tyV_is I1 r1 ty
  refine ⟨T, id, pa, slot, hty, h1, h2, ?_⟩
  have hA := ha cpos pins s1 σ H1 _ I1 q1
  rw [hs] at hA ⊢
  refine Calls.callWith_builtin (by show (false || (backTo cpos (starEach es X.env)).any (·.1)) = false; rw [hplain] <;> rfl) (Calls.evalArgs_plain ?_)
  exact thn hA fun us s2 ⟨vs, H2, I2, r2, q2⟩ => hm pins s2 σ H2 x vs v us Q I2 r1 r2 q2
/- xs.append(e), list.index on a module's tuple .. are MtR facts of 06m -/
end
end L2

namespace L2
open PySem PySem.Spec PyProof.Rows

def MtM (X : Cx) (id : String) (r : V → List V → Hp → VK → Prop) : Prop :=
  ∀ (pins : List (Addr × Obj)) (s : Shared) (σ : St) (H : Hp) (x : V) (xs : List V) (v : Value) (us : List Value) (Q : VK), Inv X pins σ H s → RelV x v → Vals xs us → r x xs H Q →
    wpAny (model X.prog X.w) X.A (call (.builtin id) (v :: us)) (EP X pins σ Q) X.xe s

/-! ### lists of values -/
theorem Vals.one : ∀ {x : V} {us : List Value}, Vals [x] us → ∃ u, us = [u] ∧ RelV x u
  | _, _, .cons r .nil => ⟨_, rfl, r⟩
theorem Vals.two : ∀ {x y : V} {us : List Value}, Vals [x, y] us → ∃ u v, us = [u, v] ∧ RelV x u ∧ RelV y v
  | _, _, _, .cons r (.cons q .nil) => ⟨_, _, rfl, r, q⟩
theorem Vals.zero : ∀ {us : List Value}, Vals [] us → us = []
  | _, .nil => rfl
theorem Vals.eraseIdx : ∀ {xs : List V} {us : List Value} (i : Nat), Vals xs us → Vals (xs.eraseIdx i) (us.eraseIdx i)
  | _, _, _, .nil => .nil
  | _, _, 0, .cons _ t => t
  | _, _, i + 1, .cons r t => .cons r (Vals.eraseIdx i t)
theorem Vals.reverse {xs : List V} {us : List Value} (h : Vals xs us) : Vals xs.reverse us.reverse := by
  induction h with
  | nil => exact .nil
  | cons r t ih => rw [List.reverse_cons, List.reverse_cons]; exact Vals.append ih (.cons r .nil)
section
variable {X : Cx} {pins : List (Addr × Obj)} {σ : St} {H : Hp} {s : Shared} {l b : Addr} {xs ys zs : List V}

/-! ### the two steps: a tracked list is rewritten, a new list is laid -/
theorem Inv.lset {its its' : List Value} {n : Nat} {f : Array Value → Array Value} {t' : Nat} (I : Inv X pins σ H s) (hH : H l = some (.lst xs))
    (e : s.heap.get? l = some { cls := .type "list", data := .seq its.toArray n }) (hf : f its.toArray = its'.toArray) (hv : Vals ys its') (hz : ys.length ≤ sizeLine) :
    Inv X pins σ (upd H l (.lst ys)) { s with heap := s.heap.update l (Obj.mapSeq f), toks := t' } := by
  have q := PySem.IsL.update e f
  rw [hf] at q
  refine I.write (x := l) (e := l) (by rw [hH]; exact trivial) (.inl rfl) (fun b' u hb hu => (Heap.get?_update_other s.heap (Obj.mapSeq f) (Ne.symm hb)).trans hu) ⟨_, q⟩ ?_
  exact ⟨hz, its', _, hv, q⟩
theorem Inv.lnew {its : List Value} {t' : Nat} (I : Inv X pins σ H s) (hv : Vals ys its) (hz : ys.length ≤ sizeLine) :
    Inv X pins σ (upd H s.heap.objs.size (.lst ys)) { s with heap := s.heap.push { cls := .type "list", data := .seq its.toArray }, toks := t' } :=
  I.laid (fun _ _ q => Heap.get?_push_of_some _ q) (Nat.le_refl _) ⟨hz, its, 0, hv, Heap.get?_push_size _ rfl⟩
theorem Inv.fresh (I : Inv X pins σ H s) : H s.heap.objs.size = none := I.hok.fresh (Nat.le_refl _)
theorem Inv.lstM (I : Inv X pins σ H s) (hH : H l = some (.lst xs)) : xs.length ≤ sizeLine ∧ ∃ (its : List Value) (n : Nat), Vals xs its ∧ xs.length = its.length ∧ s.heap.get? l = some { cls := .type "list", data := .seq its.toArray n } := by
  obtain ⟨z, its, n, r, e⟩ := I.hok l _ hH
  exact ⟨z, its, n, r, r.length, e⟩

end

section
variable {X : Cx}

/-! ### methods -/
def rAppend : V → List V → Hp → VK → Prop := fun x vs H Q => ∃ l xs y, x = .ref l ∧ vs = [y] ∧ H l = some (.lst xs) ∧ xs.length < sizeLine ∧ Q .non (upd H l (.lst (xs ++ [y])))
theorem mt_append : MtM X "list.append" rAppend := by
  intro pins s σ H x vs v us Q I rx rv h
  obtain ⟨l, xs, y, rfl, rfl, hH, hz, q⟩ := h
  cases rx
  obtain ⟨u, rfl, ru⟩ := rv.one
  obtain ⟨z, its, n, r, hl, e⟩ := I.lstM hH
  refine call_meets F.slot_list_append ⟨_, e, rfl⟩ F.entry_list_append (F.args_list_append_2 _ _) (PySem.list_append l its.toArray n u (by rw [List.size_toArray]; omega)) ⟨e, ?_⟩
  refine ⟨.non, _, I.lset (its' := its ++ [u]) hH e (by simp) (r.append (.cons ru .nil)) ?_, rfl, q⟩
  rw [List.length_append, List.length_singleton]
  omega

/-! ### list + list, list += list, list * int -/
/-! ### del xs[i] -/
end

/-! ### xs[a:b] = ys -/
section
variable {prog : Program} {w : World} {A : Around} {E : Value → Shared → Prop} {s : Shared}
end

section
variable {X : Cx}
end
end L2

namespace Att
open PySem PySem.W PySem.Calls PyProof.Rows

/-! ### the script -/
theorem ints_of_wellAll {P : Params} {h : Heap} : ∀ (ns : List Int) (vs : List Value), WellAll P h vs (ns.map WData.int) → IntsAre vs ns := by
  intro ns
  induction ns with
  | nil =>
    intro vs w
    rw [List.map_nil] at w
    cases w
    exact .nil
  | cons n ns ih =>
    intro vs w
    rw [List.map_cons] at w
    cases w with
    | cons a b =>
      cases a
      exact .cons _ _ (ih _ b)

theorem script_of {l : OpenLaw} {n : Nat} (hn : l.most = some n) {P : Params} {h : Heap} {args : List WData} {vals : List Value}
    (hpre : l.row.toRowW.claim.pre args = true) (hwl : WellAll P h vals args) :
    ∃ a vs ns, vals = [Value.ref a] ∧ args = [WData.list (ns.map WData.int)] ∧ h.get? a = some { cls := .type "list", data := .seq vs.toArray } ∧ IntsAre vs ns ∧ ns.length ≤ n := by
  have hsh : WShape.hasAll [] args [.list .int] = true := (pre_splitW hpre).1
  have hc : l.pre.holds [] { args := args } = true := (pre_splitW hpre).2
  obtain ⟨d, r, rfl, h1, h2⟩ := hasAllW_cons hsh
  obtain rfl := hasAllW_nil h2
  obtain ⟨xs, rfl, h3⟩ := hasW_list h1
  obtain ⟨ns, rfl⟩ := items_int h3
  have hlen : ns.length ≤ n := by
    unfold OpenLaw.pre at hc
    have h4 : (WTm.not (.lt (.lit (.int (n : Int))) (.len (.arg 0)))).holds [] { args := [.list (ns.map .int)] } = true := by
      have h4 := (holds_andW hc).1
      rw [hn] at h4
      exact h4
    have h5 := condW_of h4 (w_not (w_lt w_lit (w_len_list (w_arg rfl))))
    rw [List.length_map] at h5
    refine Nat.le_of_not_lt fun q => ?_
    have q' : (n : Int) < ((ns.length : Nat) : Int) := by omega
    first
      | (rw [decide_eq_true q'] at h5; exact absurd h5 (by decide))
      | (simp at h5; omega)
  cases hwl with
  | cons w1 w2 =>
    cases w2
    cases w1 with
    | list ho hall => exact ⟨_, _, ns, rfl, rfl, ho, ints_of_wellAll ns _ hall, hlen⟩

theorem post_true (l : OpenLaw) (args : List WData) : l.row.toRowW.claim.post args (.bool true) args = true :=
  postW_of (r := l.row.toRowW) (X := (true == true))
    (show WShape.has [] (.bool true) .bool = true by first | rfl | decide | simp [WShape.has, WShape.arms, WShape.armsAll])
    (show (WTm.eq .res (.lit (.bool true))).value [] { args := args, res := some (.bool true), after := args } = some (.bool (true == true)) from w_eq_bool (w_res rfl) w_lit) rfl

/-! ### the attachment: holds_open's last premise (the goal 'hc' behind k_head) from a wpAny of the law's body -/
/-- the same from a codeAny of the CALL (for a layer whose function contracts speak of calls) -/
theorem attach_call {l : OpenLaw} {n : Nat} {q : Program} {loose : List Str} {XP : (Str → Option Value) → Heap → Prop} {YP : World → Heap → Prop} {d : DefRec}
    (hn : l.most = some n) (hdf : d.params.defaults = [])
    (call : ∀ (w : World) (s₀ s₁ : Shared) (mg mb : Str → Option Value) (fa : Addr) (o : Obj) (pm cd doc : Value) (a : Addr) (vs : List Value) (ns : List Int),
      Ground q loose [] XP w s₀ mg mb s₁.heap → YP w s₁.heap →
      s₁.heap.get? fa = some o → o.data = .func (docDef d.name d.params d.body d.scope pm cd doc) → s₁.heap.CodeRec cd d.name → mg d.name = some (.ref fa) →
      s₁.heap.get? a = some { cls := .type "list", data := .seq vs.toArray } → IntsAre vs ns → ns.length ≤ n → s₁.gens = #[] →
      codeAny (model l.prog w) callerA (.call (.ref fa) ⟨[.ref a], []⟩) (fun r s' => r = .ok (.ret (.bool true)) ∧ OldK s₁.heap s'.heap ∧ s'.os = s₁.os ∧ AllBare s'.gens) s₁) :
    WalkO q loose XP YP l.row.toRowW d [] (fun f vs => PySem.call f vs) := by
  intro w s₀ s₁ mg mb G Y fa o pm cd doc dV kV ho hd hcd hD hmg hg args vals as hpre hlay hrd hwl hlo
  obtain rfl : dV = .none := Dflts.none hD hdf
  obtain rfl : kV = .none := Dflts.noKw hD
  obtain ⟨a, vs, ns, rfl, rfl, hobj, hints, hlen⟩ := script_of hn hpre hwl
  refine enter_call (codeAny_mono (call w s₀ s₁ mg mb fa o pm cd doc a vs ns G Y ho (fd_plain hd) hcd hmg hobj hints hlen hg) fun r s' hq => ?_)
  obtain ⟨rfl, h2, h3, h4⟩ := hq
  exact ⟨.inl ⟨.bool true, .bool true, [], rfl, fun _ => rfl, .bool true, post_true l _, fun _ => ⟨List.Pairwise.nil, fun _ hm => (nomatch hm)⟩⟩, h2, h3, h4⟩

/-! ### rules over ANY heap (no ledger) from facts about the written part K: the library's own take a ledger (News) for what they write -/
section
variable {prog : Program} {w : World} {A : Around} {E : Value → Shared → Prop} {s : Shared} {K : Frag}

/-! the whole heap as the ledger: makes every rule that writes through a ledger a rule over any heap -/
def ledger (h : Heap) (L d : Addr) : List (Addr × Obj) := (List.range h.objs.size).filterMap fun a => if a = L ∨ a = d then none else (h.get? a).map fun o => (a, o)
end
end Att

namespace L2
open PySem PySem.Spec PyProof.Rows

theorem vals_ints : ∀ {vs : List Value} {ns : List Int}, IntsAre vs ns → Vals (ns.map V.int) vs
  | _, _, .nil => .nil
  | _, _, .cons n t h => .cons ⟨t, rfl⟩ (vals_ints h)

/-- nothing is tracked but the script, known to the object (or it is an object of the module) -/
def Only (H : Hp) : Prop := ∀ b, H b = none ∨ ∃ o xs, H b = some (.frz o (.lst xs))

/-- THE HEAD: the law's promise, at the heap behind the top. F, the promise of the law's def, may use that base is part of the heap (so K.In base, base.Ns mainGlobals mg stand in Mod) -/
theorem law_call {P : Program} {w : World} {K : PySem.W.Frag} {mg mb : Str → Option Value} {CX : CXT} {k : Nat} {fa a : Addr} {fd : FuncData} {x : Str} {sp : Sp} {s₁ : Shared} {vs : List Value} {ns : List Int}
    (KX : K.In s₁.heap) (hns : s₁.heap.Ns mainGlobals mg) (hb : s₁.heap.Ns builtinsNs mb) (hbb : ∀ x : Str, x ≠ "__name__" → mb x = bootBuiltins x) (hlim : s₁.heap.NoLimit) (hg : s₁.gens = #[])
    (ha : s₁.heap.get? a = some { cls := .type "list", data := .seq vs.toArray }) (hi : IntsAre vs ns) (hl : ns.length ≤ sizeLine) (hr : Room k callerA)
    (F : ∀ base : Heap, K.In base → base.Ns mainGlobals mg → FnOk P w K mg base CX k fa fd [x] sp) (hbind : ∀ (s : Shared) (u : Value), BindsTo s fd ⟨[u], []⟩ [(x, u)])
    (hsp : ∀ H : Hp, Only H → SqL K H a (ns.map V.int) → sp [.ref a] H (fun v _ => v = .bl true) fun _ _ _ => False)
    (hCX : ∀ H e s', CX [] H s₁ (fun _ _ _ => False) e s' → False) :
    codeAny (model P w) callerA (.call (.ref fa) ⟨[.ref a], []⟩) (fun r s' => r = .ok (.ret (.bool true)) ∧ OldK s₁.heap s'.heap ∧ s'.os = s₁.os ∧ AllBare s'.gens) s₁ := by
  have rv := vals_ints hi
  have lenV := hi.length
  -- from an abstract heap in which nothing but the script may be tracked
  have core : ∀ H : Hp, Only H → SqL K H a (ns.map V.int) → HOk P w H s₁.heap → (∀ b, H b ≠ none → b = a) → (H a ≠ none → K.lookup a = none) →
      codeAny (model P w) callerA (.call (.ref fa) ⟨[.ref a], []⟩) (fun r s' => r = .ok (.ret (.bool true)) ∧ OldK s₁.heap s'.heap ∧ s'.os = s₁.os ∧ AllBare s'.gens) s₁ := by
    intro H hO hS hok hA hK
    have base_of : ∀ {b : Addr} {o : Obj}, s₁.heap.get? b = some o → H b = none → (hidT s₁.heap H).get? b = some o := fun e n => hidT_get e n
    have noA : ∀ {b : Addr} {o : Obj} {es : Array DictEntry} {ep : Nat}, s₁.heap.get? b = some o → o.data = .dict es ep → H b = none := fun {b o es ep} e d => by
      cases q : H b with
      | none => rfl
      | some u =>
        have e' : b = a := hA b (by rw [q]; simp)
        subst e'
        rw [ha] at e; cases e
        have d' : Data.seq vs.toArray _ = Data.dict es ep := d
        cases d'
    have nsK : ∀ {b : Addr} {m : Str → Option Value}, s₁.heap.Ns b m → (hidT s₁.heap H).Ns b m := fun {b m} ⟨o, es, ep, e, d, r⟩ => ⟨o, es, ep, base_of e (noA e d), d, r⟩
    have hKb : K.In (hidT s₁.heap H) := fun b o e => base_of (KX b o e) (by
      cases q : H b with
      | none => rfl
      | some u =>
        have e' : b = a := hA b (by rw [q]; simp)
        subst e'
        rw [hK (by rw [q]; simp)] at e; cases e)
    have hM : Mod K mg (hidT s₁.heap H) := ⟨hKb, nsK hns, ⟨mb, nsK hb, hbb⟩, let ⟨mc, h1, h2⟩ := hlim; ⟨mc, nsK h1, h2⟩⟩
    have e0 : Env0 P w K mg (hidT s₁.heap H) callerA [] s₁ H := ⟨rfl, hM, fun b o e => of_hidT e, Nat.le_of_eq (hidT_size _ _), trivial, fun b hb => absurd (show b ∈ ([] : List Addr) from hb) (by simp), hok, .of_eq hg⟩
    refine codeAny_mono ((F _ hKb (nsK hns)).run callerA [] s₁ H ⟨[.ref a], []⟩ [.ref a] [.ref a] _ _ hr e0 (hbind s₁ (.ref a)) (.cons rfl .nil) (hsp H hO hS)) fun r s' h => ?_
    cases r with
    | error e => exact (hCX H e s' h).elim
    | ok fl =>
      cases fl with
      | next => exact False.elim h
      | brk => exact False.elim h
      | cont => exact False.elim h
      | ret u =>
        obtain ⟨v, H', os, bare, un, hok', r', q⟩ := h
        have q' : v = .bl true := q
        subst q'
        obtain rfl : u = Value.bool true := r'
        refine ⟨rfl, OldK.of_keep fun b o e => ?_, os, bare⟩
        cases q : H b with
        | none => exact un.keep b o e q (by intro z; exact absurd (show b ∈ ([] : List Addr) from z) (by simp)) (by simp)
        | some u =>
          rcases hO b with z | ⟨ob, xs, z⟩
          · rw [q] at z; cases z
          · have z2 := un.frzs b ob _ z
            obtain ⟨e1, _⟩ := hok b _ z
            obtain ⟨e2, _⟩ := hok' b _ z2
            rw [e] at e1; cases e1
            exact e2
  cases hk : K.lookup a with
  | some o =>
    -- the script is one of the module's own objects
    have e := KX a o hk
    rw [ha] at e
    cases e
    refine core (fun _ => none) (fun _ => .inl rfl) (.inr ⟨_, vs.toArray, _, hk, rfl, rfl, rfl, by rw [List.size_toArray, lenV]; exact hl, by simpa using rv⟩) (fun b u z => by have z' : (none : Option HO) = some u := z; cases z') (fun b z => absurd rfl z) fun z => absurd rfl z
  | none =>
    refine core (fun b => if b = a then some (.frz { cls := .type "list", data := .seq vs.toArray } (.lst (ns.map V.int))) else none) (fun b => ?_) (.inl (.inr ⟨{ cls := .type "list", data := .seq vs.toArray }, if_pos rfl⟩)) (fun b u z => ?_) (fun b z => ?_) fun _ => hk
    · by_cases hb : b = a
      · exact .inr ⟨_, _, if_pos hb⟩
      · exact .inl (if_neg hb)
    · by_cases hb : b = a
      · have z' := (if_pos hb).symm.trans z
        cases z'
        subst hb
        exact ⟨ha, by rw [List.length_map]; exact hl, vs, _, rv, ha⟩
      · have z' := (if_neg hb).symm.trans z
        cases z'
    · by_cases hb : b = a
      · exact hb
      · exact absurd (if_neg hb) z
end L2

namespace L2
open PySem PySem.Spec PyProof.Rows

abbrev KOf {K : PySem.W.Frag} {h : Heap} (_ : K.In h) : PySem.W.Frag := K

/-- the goal that k_head leaves (case hc), from the law's promise. F gives the function object fd (K's own) once, then the promise over every base -/
theorem walk_of {l : PySem.W.OpenLaw} {n k : Nat} {q : Program} {loose : List Str} {XP : (Str → Option Value) → Heap → Prop} {YP : World → Heap → Prop} {d : DefRec} {K : Params → PySem.W.Frag} {CX : World → CXT} {sp : World → Sp} {x : Str}
    (hn : l.most = some n) (hn2 : n ≤ sizeLine) (hdf : d.params.defaults = []) (hr : Room k callerA)
    (hY : ∀ (w : World) (h : Heap), YP w h → (K w.params).In h)
    (F : ∀ (w : World) (mg : Str → Option Value) (fa : Addr) (h : Heap), (K w.params).In h → h.Ns mainGlobals mg → mg d.name = some (.ref fa) →
      ∃ fd : FuncData, (∀ (s : Shared) (u : Value), BindsTo s fd ⟨[u], []⟩ [(x, u)]) ∧
        ∀ base : Heap, (K w.params).In base → base.Ns mainGlobals mg → FnOk l.prog w (K w.params) mg base (CX w) k fa fd [x] (sp w))
    (hsp : ∀ (w : World) (H : Hp) (a : Addr) (ns : List Int), ns.length ≤ n → Only H → SqL (K w.params) H a (ns.map V.int) → sp w [.ref a] H (fun v _ => v = .bl true) fun _ _ _ => False)
    (hCX : ∀ (w : World) (H : Hp) (s : Shared) (e : Value) (s' : Shared), CX w [] H s (fun _ _ _ => False) e s' → False) :
    PySem.W.WalkO q loose XP YP l.row.toRowW d [] (fun f vs => PySem.call f vs) := by
  refine Att.attach_call hn hdf fun w s₀ s₁ mg mb fa o pm cd doc a vs ns G Y ho hd hcd hmg hobj hints hlen hg => ?_
  have KX := hY w _ Y
  obtain ⟨fd, hb, hF⟩ := F w mg fa _ KX G.T.g hmg
  exact law_call KX G.T.g G.T.b G.T.builtins G.T.nolimit hg hobj hints (Nat.le_trans hlen hn2) hr hF hb (fun H hO hS => hsp w H a ns hlen hO hS) fun H e s' => hCX w H s₁ e s'
end L2

/- THE LAST THEOREM (shape; LID, My.* are yours):
   My.Adr: a structure of the addresses that your layer names (classes, functions); My.Txt K t: a structure (Prop) of the equations over K;
   My.txt_mk : {K} {implicit addresses ..} (e1 : nsIn K mainGlobals "law" = some (some (.ref f))) (e2 : K.lookup f = some ⟨oc, od, .func (fnOf "law" "law" params body scope dV kV doc pm an cdv ct), sl⟩) (e3 : codeIn K cdv "law" = true) .. : ∃ t, My.Txt K t

set_option maxRecDepth 100000 in
set_option maxHeartbeats 0 in
theorem PySem.Challenge.cw_LID_holds : PySem.Challenge.rw_LID.Holds := by
  w_on; o_law; k_head; (case hw => w_witness2)
  k_fill
  refine L2.walk_of (l := PySem.Challenge.rw_LID) (n := 63) (k := 40) (x := "script") (CX := fun w => ..) (sp := fun _ => My.sp_law) rfl (by decide) rfl ⟨rfl, by decide, by decide⟩ (fun w h Y => PySem.W.kIn_of Y) ?F ?S ?C
  case F =>
    intro w mg fa h KX G hmg
    have T : ∃ t, My.Txt (L2.KOf KX) t := by
      dsimp only [L2.KOf]                          -- K must stand as «<heap const> w.params» for k_is
      refine' My.txt_mk ?e1 ?e2 ?e3 ..
      (case e1 => PySem.W.k_is)                    -- in the order: a name -> its address -> its object -> its parts
      (case e2 => PySem.W.k_is)
      ..
    obtain ⟨t, T⟩ := T
    have e0 := hmg.symm.trans (PySem.W.mg_of KX G T.law)
    cases e0                                       -- fa is the law's own address
    exact ⟨_, fun s u => .of_eq rfl, fun base kb nb => My.law_fn T kb nb⟩     -- if «.of_eq rfl» comes too early: refine' ⟨_, ?b, fun base kb nb => My.law_fn T kb nb⟩; exact fun s u => .of_eq rfl
  case S => exact fun w H a ns hl hO hS => ..
  case C => exact ..
(the tactic k_is has no namespace: write k_is) -/

/-! SHORT WORDS over the layer: a def of the text, its body, what a loop and a test want. -/
namespace L2
open PySem PySem.Spec PyProof.Rows

/-! ### the text by places -/
def defArgs (s : Stmt) : Arguments := match s with
  | .FunctionDef _ a _ _ _ _ _ _ _ _ => a
  | _ => { posonlyargs := [], args := [], vararg := none, kwonlyargs := [], kw_defaults := [], kwarg := none, defaults := [] }
def defBody (s : Stmt) : List Stmt := match s with
  | .FunctionDef _ _ b _ _ _ _ _ _ _ => b
  | _ => []
def defScope (s : Stmt) : Scope := match s with
  | .FunctionDef _ _ _ _ _ _ sc _ _ _ => sc
  | _ => { kind := .function, names := [], isGenerator := false, isCoroutine := false }

/-! ### no exception leaves a def -/
abbrev CX0 : CXT := fun _ _ _ _ _ _ => False
abbrev E0 : XK := fun _ _ _ => False
theorem pass0 {X : Cx} : Passes CX0 X E0 := fun _ _ _ _ _ _ _ h => h.elim

/-! ### a def (or method) of the text as it stands behind the top -/
structure Fun (K : PySem.W.Frag) (x qual : Str) (st : Stmt) (f : Addr) (fd : FuncData) : Prop where
  ex : ∃ (oc : Value) (od : Option Addr) (kV doc pm : Value) (an : Option Addr) (cdv ct : Value) (osl : Array (Option Value)),
    fd = PySem.W.fnOf x qual (defArgs st) (defBody st) (defScope st) .none kV doc pm an cdv ct ∧ K.lookup f = some ⟨oc, od, .func fd, osl⟩ ∧ PySem.W.codeIn K cdv qual = true
  kp : PySem.W.keepIn K (.ref f) = true
section
variable {P : Program} {w : World} {K : PySem.W.Frag} {mg : Str → Option Value} {base : Heap}
/-- THE RULE for a def: its body as a term of rules, and the reading of that term -/
theorem Fun.ok {x qual : Str} {st : Stmt} {f : Addr} {fd : FuncData} {N ps : List Str} {k : Nat} {sp : Sp} (F : Fun K x qual st f fd) (S : FnScope N ps (defScope st)) (len : ∀ vs H Q E, sp vs H Q E → vs.length = ps.length)
    (hbody : ∀ (cdv : Value) (A : Around) (outer : List Env) (s : Shared) (H : Hp) (vs : List V) (Q : VK) (E : XK), Room k (A.deeper (envOfC qual (defScope st) s.heap.objs.size f cdv)) → sp vs H Q E →
      ∃ t, PSs (cxOf CX0 P w K mg base N qual (defScope st) f cdv A outer s H E).nox (defBody st) t ∧ t { nx := fun _ H' => Q .non H', rt := Q } (start N vs) H) : FnOk P w K mg base CX0 (k + 1) f fd ps sp := by
  obtain ⟨oc, od, kV, doc, pm, an, cdv, ct, osl, rfl, lk, hcd⟩ := F.ex
  refine fn_of lk hcd S len fun A outer s H vs Q E hr hsp => ?_
  obtain ⟨t, h, q⟩ := hbody cdv A outer s H vs Q E hr hsp
  exact ⟨t, h.nox, q⟩
/-- how its arguments bind (no defaults): h is «fun _ _ _ _ _ _ us hl => match us, hl with | [_, _], _ => rfl», one _ a parameter -/
theorem Fun.binds {x qual : Str} {st : Stmt} {f : Addr} {fd : FuncData} {ps : List Str} (F : Fun K x qual st f fd)
    (h : ∀ (kV doc pm : Value) (an : Option Addr) (cdv ct : Value) (us : List Value), us.length = ps.length → bindArgs (PySem.W.fnOf x qual (defArgs st) (defBody st) (defScope st) .none kV doc pm an cdv ct) ⟨us, []⟩ = pure (ps.zip us)) : Binds K fd ps [] := by
  obtain ⟨oc, od, kV, doc, pm, an, cdv, ct, osl, rfl, lk, hcd⟩ := F.ex
  exact .all (h kV doc pm an cdv ct)
theorem fun_mk {x qual : Str} {st : Stmt} {f : Addr} {oc : Value} {od an : Option Addr} {osl : Array (Option Value)} {kV doc pm cdv ct : Value} (l : K.lookup f = some ⟨oc, od, .func (PySem.W.fnOf x qual (defArgs st) (defBody st) (defScope st) .none kV doc pm an cdv ct), osl⟩)
    (c : PySem.W.codeIn K cdv qual = true) (k : PySem.W.keepIn K (.ref f) = true) : Fun K x qual st f (PySem.W.fnOf x qual (defArgs st) (defBody st) (defScope st) .none kV doc pm an cdv ct) := ⟨⟨oc, od, kV, doc, pm, an, cdv, ct, osl, rfl, l, c⟩, k⟩
end
/-! ### expressions in short: the name that stands in the i-th slot -/
section
variable {X : Cx}
theorem pv (i : Nat) {x : Str} {pos : Pos} (hN : X.N[i]? = some x := by rfl) (hv : Vis X.env.scope x := by first | exact Or.inl rfl | exact Or.inr (Or.inl rfl) | exact Or.inr (Or.inr rfl)) (hd : (x == ("__debug__" : Str)) = false := by decide)
    (hcd : (x == ("__classdict__" : Str)) = false := by decide) : PE X (.Name x pos) (tVar i) := pe_var hN hv hd hcd
end

/-! ### tests -/
theorem iteF {A B : Prop} (h : B) : if false = true then A else B := by
  rw [if_neg Bool.false_ne_true]
  exact h
theorem iteT {A B : Prop} (h : A) : if true = true then A else B := by
  rw [if_pos rfl]
  exact h
/-! ### heaps -/
/-- all that was tracked is as it was -/
def Same (H H' : Hp) : Prop := ∀ b o, H b = some o → H' b = some o
theorem Same.refl (H : Hp) : Same H H := fun _ _ h => h
theorem Same.trans {H H1 H2 : Hp} (a : Same H H1) (b : Same H1 H2) : Same H H2 := fun c o h => b c o (a c o h)
theorem Same.free {H H' : Hp} (e : Same H H') {l : Addr} (h : H' l = Option.none) : H l = Option.none := by
  cases q : H l with
  | none => rfl
  | some o =>
    rw [e l o q] at h
    cases h
theorem Same.seq {K : PySem.W.Frag} {H H' : Hp} {a : Addr} {xs : List V} (e : Same H H') (h : SqL K H a xs) : SqL K H' a xs := by
  rcases h with (h | ⟨o, h⟩) | h
  · exact .inl (.inl (e _ _ h))
  · exact .inl (.inr ⟨o, e _ _ h⟩)
  · exact .inr h

end L2

set_option Elab.async false
set_option linter.all false
set_option maxRecDepth 100000
set_option maxHeartbeats 4000000
/-! MY OWN ADDITIONS to the hand layer: texts -/
namespace L2
open PySem PySem.Spec PyProof.Rows PySem.Builtin PySem.Builtin.Str

/-- a text by its codes -/
def T (l : List Nat) : Str := ⟨l.toArray⟩
theorem T_cps (l : List Nat) : (T l).cps.toList = l := by simp [T]
theorem T_inj {a b : List Nat} : T a = T b ↔ a = b := by
  constructor
  · intro h
    have := congrArg (fun x : Str => x.cps.toList) h
    simpa [T] using this
  · rintro rfl; rfl
theorem T_len (l : List Nat) : (T l).length = l.length := by simp [T, Str.length]
theorem T_app (a b : List Nat) : T a ++ T b = T (a ++ b) := by
  show Str.append (T a) (T b) = _
  simp [Str.append, T]
theorem T_decide (a b : List Nat) : decide ((V.str (T a)) = V.str (T b)) = decide (a = b) := by
  by_cases h : a = b
  · subst h; simp
  · rw [decide_eq_false h, decide_eq_false]
    intro q; injection q with q; exact h (T_inj.mp q)

def cutL (xs : List Nat) (lo hi : Option Int) : List Nat := (xs.drop (HT.sIx xs.length 0 lo)).take (HT.sIx xs.length xs.length hi - HT.sIx xs.length 0 lo)
theorem sliceIdx_cut (lo hi : Option Int) (n : Nat) : strSliceIndices lo hi 1 n = (List.range (HT.sIx n n hi - HT.sIx n 0 lo)).map (HT.sIx n 0 lo + ·) := by
  have h1 : (1 : Int) > 0 := by decide
  have a : ∀ (v : Int) (d : Nat), max 0 (min (if v < 0 then v + (n : Int) else v) (n : Int)) = ((HT.sIx n d (some v) : Nat) : Int) := by
    intro v d
    show _ = (((if v < 0 then (v + (n : Int)).toNat else min v.toNat n) : Nat) : Int)
    by_cases hv : v < 0
    · simp only [if_pos hv]; omega
    · simp only [if_neg hv]; omega
  have key : ∀ (p q : Nat), sliceRange (p : Int) (q : Int) 1 = (List.range (q - p)).map (p + ·) := by
    intro p q
    unfold sliceRange
    simp only [h1, if_true]
    have e : (if (p : Int) < (q : Int) then ((q : Int) - p + 1 - 1) / 1 else 0).toNat = q - p := by
      split <;> omega
    rw [e]
    refine List.map_congr_left fun k _ => ?_
    omega
  unfold strSliceIndices
  simp only [h1, if_true]
  cases lo with
  | none =>
    cases hi with
    | none => exact key 0 n
    | some v => dsimp only; rw [a v n]; exact key 0 _
  | some u =>
    cases hi with
    | none => dsimp only; rw [a u 0]; exact key _ n
    | some v => dsimp only; rw [a u 0, a v n]; exact key _ _
theorem sIx_hi_le (n : Nat) (o : Option Int) : HT.sIx n n o ≤ n := HT.sIx_le n n (Nat.le_refl _) o
theorem slice_cut (x : List Nat) (lo hi : Option Int) : Txt.slice (T x) lo hi = T (cutL x lo hi) := by
  have hlen : (T x).length = x.length := T_len x
  have hle := sIx_hi_le x.length hi
  have e : (strSliceIndices lo hi 1 (T x).length).filterMap ((T x).cps[·]?) = cutL x lo hi := by
    rw [sliceIdx_cut, hlen]
    unfold cutL
    generalize hp : HT.sIx x.length 0 lo = p
    generalize HT.sIx x.length x.length hi = q at hle ⊢
    by_cases hpq : p ≤ q
    · have := StrLaws.picks x (q - p) p (by omega)
      rw [← this]
      simp [T]
    · have : q - p = 0 := by omega
      rw [this]; simp
  unfold Txt.slice
  split
  · rename_i h
    have h2 : (strSliceIndices lo hi 1 (T x).length).length = (T x).length := by
      simp only [Bool.and_eq_true, beq_iff_eq] at h; exact h.2
    rw [sliceIdx_cut, hlen, List.length_map, List.length_range] at h2
    have h3 : HT.sIx x.length 0 lo ≤ x.length := HT.sIx_le _ 0 (Nat.zero_le _) lo
    unfold cutL
    by_cases hx : x.length = 0
    · have : x = [] := List.eq_nil_of_length_eq_zero hx
      subst this; simp
    · have e1 : HT.sIx x.length 0 lo = 0 := by omega
      have e2 : HT.sIx x.length x.length hi = x.length := by omega
      rw [e1, e2]; simp
  · rw [e]; rfl

section
variable {X : Cx}
theorem vals_strs : ∀ (l : List (Str × Tok)), Vals ((l.map (·.1)).map V.str) (strValues l)
  | [] => .nil
  | p :: r => .cons ⟨p.2, rfl⟩ (vals_strs r)
theorem strs_vals : ∀ {ys : List Str} {us : List Value}, Vals (ys.map V.str) us → StrsAre us ys
  | [], _, h => by cases h; exact .nil
  | y :: r, _, h => by
    cases h with
    | cons a b =>
      obtain ⟨t, rfl⟩ := a
      exact .cons y t (strs_vals b)
/-- sep.join(list of texts) -/
def rJoin (K : PySem.W.Frag) : V → List V → Hp → VK → Prop := fun x vs H Q => ∃ z p ys, x = .str z ∧ vs = [.ref p] ∧ SqL K H p (ys.map V.str) ∧ (ys.map (·.length)).sum + ys.length * z.length ≤ 16777216 ∧ Q (.str (Str.join z ys)) H
theorem mt_join : MtR X "str.join" (rJoin X.K) := by
  intro pins s σ H x xs v us Q I rx rs h
  obtain ⟨z, p, ys, rfl, rfl, hl, hz, q⟩ := h
  obtain ⟨t, rfl⟩ := rx
  obtain ⟨u, rfl, ru⟩ := Vals.one rs
  cases ru
  obtain ⟨its, r, pl, _⟩ := I.list hl
  refine join_list pl.isList (ys := ys) (by simpa using strs_vals r) hz fun t' k => ⟨.str _, H, I.tok _, ⟨_, by show _ = Value.str (Str.join z ys) t'; rw [← StrLaws.glued_eq_join]; rfl⟩, q⟩
/-- x[lo:hi] of a text -/
def rSlS : V → Option Int → Option Int → Hp → VK → Prop := fun x lo hi H Q => ∃ l, x = .str (T l) ∧ l.length ≤ sizeLine ∧ Q (.str (T (cutL l lo hi))) H
theorem sl_str : SlR X rSlS := by
  intro pins s σ H x v vl vu lo hi sl Q I rx hs pl pu h
  obtain ⟨l, rfl, hz, q⟩ := h
  obtain ⟨t, rfl⟩ := rx
  refine ⟨"str", _, F.slot_str_getitem.lookup, typeIs_str _ _ _, ?_⟩
  have hz' : (T l).length ≤ sizeLine := by rw [T_len]; exact hz
  have fin : (Txt.slice (T l) lo hi).length ≤ sizeLine ∧ ∀ t' k, EP X pins σ Q (.str (Txt.slice (T l) lo hi) t') { s with toks := k } :=
    ⟨Nat.le_trans (Txt.slice_le _ _ _) hz', fun t' k => ⟨.str _, H, I.tok _, ⟨_, by rw [slice_cut]⟩, q⟩⟩
  obtain ⟨o, ho, hc, hd⟩ := hs
  cases pl with
  | none =>
    cases pu with
    | none => exact wpAny_getItem_str_slice (l := none) (u := none) (st := none) ⟨o, ho, hc, hd⟩ rfl (post_val_or_str fin)
    | int j uj => exact wpAny_getItem_str_slice (l := none) (u := some (j, uj)) (st := none) ⟨o, ho, hc, hd⟩ rfl (post_val_or_str fin)
  | int i ui =>
    cases pu with
    | none => exact wpAny_getItem_str_slice (l := some (i, ui)) (u := none) (st := none) ⟨o, ho, hc, hd⟩ rfl (post_val_or_str fin)
    | int j uj => exact wpAny_getItem_str_slice (l := some (i, ui)) (u := some (j, uj)) (st := none) ⟨o, ho, hc, hd⟩ rfl (post_val_or_str fin)
end

/-! ### for over a text's signs -/
def Its (x : Str) : It := ⟨fun i _ => i < x.cps.toList.length, fun i H v H' => H' = H ∧ ∃ c, x.cps.toList[i]? = some c ∧ v = .str (T [c]), fun i _ => x.cps.toList.length ≤ i⟩
theorem turn_walk {P : Program} {w : World} {K : PySem.W.Frag} {tg : Expr} {it : Addr} {n : Nat} {R : Nat → Value → Prop} {St : Nat → Heap → Prop} {J : It}
    (W : ∀ A' : Around, A'.handled = none → Walks P w A' it [it] [it] n R St) (hself : ∀ (A' : Around) (i : Nat) (s : Shared) (Q : Value → Shared → Prop) (E : Value → Shared → Prop), St i s.heap → Q (.ref it) s → wpAny (model P w) A' (pyIter (.ref it)) Q E s) (ho : ∀ i h, St i h → ∃ o T vs, h.get? it = some o ∧ o.cls = .type T ∧ o.data = .fields vs ∧ ["enumerate", "zip", "dict_itemiterator", "dict_reverseitemiterator", "odict_iterator", "itertools.zip_longest", "itertools.pairwise"].contains T = false)
    (hgo : ∀ i H, J.go i H → i < n) (hst : ∀ i H, J.stop i H → n ≤ i) (hy : ∀ i v H, i < n → R i v → ∃ x, RelV x v ∧ J.yld i H x H) : Turn P w K tg J [it] it (fun i h => i ≤ n ∧ St i h) where
  mem := by simp
  obj := fun i h st b hb => by
    have e : b = it := by simpa using hb
    subst e
    obtain ⟨o, T, vs, e, c, d, _⟩ := ho i h st.2
    exact ⟨o, e, fun v z => by rw [d] at z; cases z⟩
  keep := fun i h h' st k => ⟨st.1, by
    have W0 := W ({} : Around) rfl
    exact W0.frame i h h' st.2 fun b hb o e => k b hb o e⟩
  item := by
    intro X hP hw hK hc i pins s σ H E I hf st hg
    subst hP hw hK
    obtain ⟨f0, f1, f2, f3, f4, f5⟩ := hf it (by simp)
    have hi := hgo i H hg
    refine (W X.A (I.ok.hd hc)).item i s _ _ hi st.2 fun v h' tk hv st' kk => ?_
    obtain ⟨x, rx, yx⟩ := hy i v H hi hv
    have I1 : Inv X pins σ H { s with heap := h', toks := tk } := I.turned (fun b o hb e => kk b o (by simpa using hb) e) f0 f1 f3 f4 f5
    obtain ⟨o, T, vs, e, c, d, nz⟩ := ho _ _ st'
    exact ⟨v, rfl, go_of (s := { s with heap := h', toks := tk }) (n := T) e c d nz ⟨x, H, I1, rx, yx, ⟨hi, st'⟩, fun b hb => (hf b hb).1⟩⟩
  done := by
    intro X hP hw hK hc i pins s σ H E I hf st hg
    subst hP hw hK
    obtain ⟨f0, f1, f2, f3, f4, f5⟩ := hf it (by simp)
    have e : i = n := Nat.le_antisymm st.1 (hst i H hg)
    subst e
    exact (W X.A (I.ok.hd hc)).done s _ _ st.2 fun h' tk kk => ⟨rfl, I.turned (fun b o hb e => kk b o (by simpa using hb) e) f0 f1 f3 f4 f5⟩
  self := fun A i s Q E st h => hself A i s Q E st.2 h
section
variable {X : Cx} {tg : Expr}
def iStr (tl : TE) : TI := fun σ H R => tl σ H fun x H1 => ∃ z, x = .str z ∧ R (Its z) H1
theorem pi_str {l : Expr} {tl : TE} (hl : PE X l tl) : PI X tg l (iStr tl) := by
  intro pins s σ H R I h
  refine thn (hl pins s σ H _ I h) fun v s1 ⟨x, H1, I1, r1, q1⟩ => ?_
  obtain ⟨z, e, q⟩ := q1
  subst e
  obtain ⟨t, rfl⟩ := r1
  have fin : ∀ (o : Obj) (St : Nat → Heap → Prop), Turn X.prog X.w X.K tg (Its z) [s1.heap.objs.size] s1.heap.objs.size (fun i h => i ≤ z.cps.size ∧ St i h) → St 0 (s1.heap.push o) →
      PIE X pins σ tg R (.ref s1.heap.objs.size) { s1 with heap := s1.heap.push o } := fun o St Tn st => by
    refine ⟨s1.heap.objs.size, [s1.heap.objs.size], _, _, H1, rfl, I1.kept (t' := s1.toks) fun b o e => Heap.get?_push_of_some _ e, Tn, ⟨Nat.zero_le _, st⟩, fun b hb => ?_, q⟩
    have e : b = s1.heap.objs.size := by simpa using hb
    subst e
    exact I1.fpOk (Nat.le_refl _) (I1.hok.fresh (Nat.le_refl _))
  have hgo : ∀ i H, (Its z).go i H → i < z.cps.size := fun i _ h => by simpa [Its] using h
  have hst : ∀ i H, (Its z).stop i H → z.cps.size ≤ i := fun i _ h => by simpa [Its] using h
  have hy : ∀ i v H, i < z.cps.size → SignAt z i v → ∃ x, RelV x v ∧ (Its z).yld i H x H := fun i v H hi ⟨c, u, hc, e⟩ => by
    subst e
    exact ⟨.str (T [c]), ⟨u, rfl⟩, rfl, c, by simpa using hc, rfl⟩
  cases ha : z.cps.all (· < 128)
  · refine wpAny_pyIter_wide ha (fin _ _ (turn_walk (n := z.cps.size) (R := SignAt z) (St := fun i h => h.IsStrIter s1.heap.objs.size "str_iterator" z t i) (fun A' hA => Walks.strWide hA _ z t) (fun _ _ _ _ _ st q => wpAny_pyIter_striter_wide st q) (fun i h st => ?_) hgo hst hy) ⟨_, Heap.get?_push_size _ rfl, rfl, rfl⟩)
    obtain ⟨o, e, c, d⟩ := st
    exact ⟨o, _, _, e, c, d, by decide⟩
  · refine wpAny_pyIter_ascii ha (fin _ _ (turn_walk (n := z.cps.size) (R := SignAt z) (St := fun i h => h.IsStrIter s1.heap.objs.size "str_ascii_iterator" z t i) (fun A' hA => Walks.strAscii hA _ z t) (fun _ _ _ _ _ st q => wpAny_pyIter_striter_ascii st q) (fun i h st => ?_) hgo hst hy) ⟨_, Heap.get?_push_size _ rfl, rfl, rfl⟩)
    obtain ⟨o, e, c, d⟩ := st
    exact ⟨o, _, _, e, c, d, by decide⟩
end
end L2

set_option Elab.async false
set_option linter.all false
set_option maxRecDepth 100000
set_option maxHeartbeats 4000000
/-! MY OWN ADDITIONS to the hand layer: list comprehensions of one clause -/
namespace L2
open PySem PySem.Spec PyProof.Rows

/-- the cells that a block closes over -/
def clos (cells : List (Str × Addr)) : List (Str × NameKind) → List (Str × Addr) → List (Str × Addr)
  | [], acc => acc
  | (n, k) :: r, acc => if k == .free then (match cells.lookup n with | some c => clos cells r ((n, c) :: acc) | none => clos cells r acc) else clos cells r acc
theorem clos_sub {cells : List (Str × Addr)} : ∀ (names : List (Str × NameKind)) (acc : List (Str × Addr)), (∀ x c, acc.lookup x = some c → cells.lookup x = some c) → ∀ x c, (clos cells names acc).lookup x = some c → cells.lookup x = some c
  | [], _, h => h
  | (n, k) :: r, acc, h => by
    intro x c
    unfold clos
    split
    · cases e : cells.lookup n with
      | none => exact clos_sub r acc h x c
      | some d =>
        refine clos_sub r _ (fun y z hy => ?_) x c
        rw [List.lookup_cons] at hy
        cases q : y == n with
        | true =>
          rw [q] at hy
          have : y = n := by simpa using q
          subst this
          simpa [e] using hy
        | false => rw [q] at hy; exact h y z hy
    · exact clos_sub r acc h x c
theorem clos_acc {cells : List (Str × Addr)} : ∀ (names : List (Str × NameKind)) (acc : List (Str × Addr)) (x : Str), (acc.lookup x).isSome = true → ((clos cells names acc).lookup x).isSome = true
  | [], _, _, h => h
  | (n, k) :: r, acc, x, h => by
    unfold clos
    split
    · cases e : cells.lookup n with
      | none => exact clos_acc r acc x h
      | some d =>
        refine clos_acc r _ x ?_
        rw [List.lookup_cons]
        cases q : x == n with
        | true => rfl
        | false => exact h
    · exact clos_acc r acc x h
theorem clos_has {cells : List (Str × Addr)} : ∀ (names : List (Str × NameKind)) (acc : List (Str × Addr)) (x : Str), (x, NameKind.free) ∈ names → (cells.lookup x).isSome = true → ((clos cells names acc).lookup x).isSome = true
  | (n, k) :: r, acc, x, hm, hs => by
    unfold clos
    rcases List.mem_cons.mp hm with e | hm
    · cases e
      simp only [beq_self_eq_true, if_true]
      obtain ⟨c, hc⟩ := Option.isSome_iff_exists.mp hs
      rw [hc]
      refine clos_acc r _ _ ?_
      simp [List.lookup_cons]
    · split
      · cases e : cells.lookup n with
        | none => exact clos_has r acc x hm hs
        | some d => exact clos_has r _ x hm hs
      · exact clos_has r acc x hm hs
theorem closure_eq {scope : Scope} {env : Env} (h : ∀ x, (x, NameKind.free) ∈ scope.names → (env.cells.lookup x).isSome = true) : closureFor scope env = pure (clos env.cells scope.names []) := by
  have gen : ∀ (names : List (Str × NameKind)) (acc : List (Str × Addr)), (∀ x, (x, NameKind.free) ∈ names → (env.cells.lookup x).isSome = true) →
      (forIn names acc (fun (p : Str × NameKind) (r : List (Str × Addr)) => (if p.2 == NameKind.free then (do let c ← cellOf env p.1; pure (ForInStep.yield ((p.1, c) :: r))) else pure (ForInStep.yield r) : Sem (ForInStep (List (Str × Addr)))))) = pure (clos env.cells names acc) := by
    intro names
    induction names with
    | nil => intro acc _; rfl
    | cons p r ih =>
      obtain ⟨n, k⟩ := p
      intro acc hh
      rw [List.forIn_cons]
      unfold clos
      cases hk : k == NameKind.free with
      | false =>
        simp only [hk, Bool.false_eq_true, if_false]
        exact ih acc fun x hx => hh x (List.mem_cons_of_mem _ hx)
      | true =>
        have hk' : k = .free := by simpa using hk
        subst hk'
        obtain ⟨c, hc⟩ := Option.isSome_iff_exists.mp (hh n List.mem_cons_self)
        have e : cellOf env n = pure c := by unfold cellOf; rw [hc]
        simp only [beq_self_eq_true, if_true, e, hc]
        exact ih _ fun x hx => hh x (List.mem_cons_of_mem _ hx)
  exact (congrArg (fun (m : Sem (List (Str × Addr))) => m >>= fun cs => pure cs) (gen scope.names [] h)).trans rfl

/-! ### the block -/
/-- the names' values as the block begins: nt targets, then the captured names (cs: their slots outside) -/
def lcS (nt : Nat) (cs : List Nat) (σ : St) : St := List.replicate nt none ++ cs.map fun i => (σ[i]?).getD none
def lcCx (X : Cx) (N' : List Str) (scope : Scope) (s : Shared) (H : Hp) (C : Addr) (fp : List Addr) : Cx :=
  { X with N := N', s₀ := s, H₀ := H, env := compEnvC scope (clos X.env.cells scope.names []) C X.env, outer := X.stack, stack := X.stack, ex := fp, fn := fun _ => false, pn := [], xe := fun _ _ => False }
/-- what is looked up once: Nx, sc the names and the scope outside -/
def lcOk (Nx : List Str) (sc scope : Scope) (N' : List Str) (nt : Nat) (cs : List Nat) : Bool :=
  decide (scope.kind = .function) && (scope.names.all fun p => match p.2 with
    | .cell => false
    | .local => decide (scope.names.lookup p.1 = some .local)
    | .free => decide (sc.names.lookup p.1 = some .cell) || decide (sc.names.lookup p.1 = some .free)
    | _ => true) && decide (N'.length = nt + cs.length) && (((N'.drop nt).zip cs).all fun p => decide (Nx[p.2]? = some p.1) && decide (scope.names.lookup p.1 = some .free) && (decide (sc.names.lookup p.1 = some .cell) || decide (sc.names.lookup p.1 = some .free)))
structure LcOk (X : Cx) (scope : Scope) (N' : List Str) (nt : Nat) (cs : List Nat) : Prop where
  kind : scope.kind = .function
  nocell : ∀ y ∈ scope.names, y.2 ≠ .cell
  loc : ∀ y ∈ scope.names, y.2 = .local → scope.names.lookup y.1 = some .local
  fr : ∀ x, (x, NameKind.free) ∈ scope.names → X.env.kindOf x = some .cell ∨ X.env.kindOf x = some .free
  len : N'.length = nt + cs.length
  cap : ∀ j i, cs[j]? = some i → ∃ x, N'[nt + j]? = some x ∧ X.N[i]? = some x ∧ scope.names.lookup x = some .free ∧ Vis X.env.scope x ∧ X.env.kindOf x ≠ some .local
theorem LcOk.of {X : Cx} {scope : Scope} {N' : List Str} {nt : Nat} {cs : List Nat} {Nx : List Str} {sc : Scope} (hN : X.N = Nx) (hs : X.env.scope = sc) (h : lcOk Nx sc scope N' nt cs = true) : LcOk X scope N' nt cs := by
  subst hN hs
  unfold lcOk at h
  simp only [Bool.and_eq_true, decide_eq_true_eq, List.all_eq_true] at h
  obtain ⟨⟨⟨h1, h2⟩, h3⟩, h4⟩ := h
  refine ⟨h1, fun y hy e => ?_, fun y hy e => ?_, fun x hx => ?_, h3, fun j i e => ?_⟩
  · have := h2 y hy; rw [e] at this; exact Bool.false_ne_true this
  · have := h2 y hy; rw [e] at this; exact of_decide_eq_true this
  · have := h2 _ hx
    simp only [Bool.or_eq_true, decide_eq_true_eq] at this
    exact this
  · have hj : j < cs.length := (List.getElem?_eq_some_iff.mp e).1
    have hd : (N'.drop nt).length = cs.length := by rw [List.length_drop, h3]; omega
    have hx : (N'.drop nt)[j]? = some ((N'.drop nt)[j]'(by omega)) := by simp [hd, hj]
    generalize (N'.drop nt)[j]'(by omega) = x at hx
    have hz : (x, i) ∈ (N'.drop nt).zip cs := by
      refine List.mem_of_getElem? (i := j) ?_
      rw [List.getElem?_zip_eq_some]
      exact ⟨hx, e⟩
    have q := h4 _ hz
    simp only [Bool.and_eq_true, Bool.or_eq_true, decide_eq_true_eq] at q
    refine ⟨x, by rw [List.getElem?_drop] at hx; exact hx, q.1.1, q.1.2, ?_, fun z => ?_⟩
    · exact q.2.elim (fun z => .inr (.inl z)) fun z => .inr (.inr z)
    · have z' : X.env.scope.names.lookup x = some .local := z
      rcases q.2 with y | y <;> · rw [z'] at y; cases y
theorem relabel_free {env : Env} : ∀ {names : List (Str × NameKind)} {x : Str}, names.lookup x = some .free →
    (names.map fun (n, k) => if (k == NameKind.free && env.scope.kind == .function && env.kindOf n == some .cell) then (n, NameKind.cell) else (n, k)).lookup x = some .cell ∨
    (names.map fun (n, k) => if (k == NameKind.free && env.scope.kind == .function && env.kindOf n == some .cell) then (n, NameKind.cell) else (n, k)).lookup x = some .free
  | [], _, h => by simp at h
  | (n, k) :: r, x, h => by
    have ih := @relabel_free env r x
    show List.lookup x ((if (k == NameKind.free && env.scope.kind == .function && env.kindOf n == some .cell) = true then (n, NameKind.cell) else (n, k)) :: _) = _ ∨ List.lookup x ((if (k == NameKind.free && env.scope.kind == .function && env.kindOf n == some .cell) = true then (n, NameKind.cell) else (n, k)) :: _) = _
    cases hx : x == n with
    | true =>
      simp only [List.lookup_cons, hx] at h
      cases h
      by_cases hc : (NameKind.free == NameKind.free && env.scope.kind == .function && env.kindOf n == some .cell) = true
      · rw [if_pos hc]; left; simp only [List.lookup_cons, hx]
      · rw [if_neg hc]; right; simp only [List.lookup_cons, hx]
    | false =>
      simp only [List.lookup_cons, hx] at h
      by_cases hc : (k == NameKind.free && env.scope.kind == .function && env.kindOf n == some .cell) = true
      · rw [if_pos hc]; simp only [List.lookup_cons, hx]; exact ih h
      · rw [if_neg hc]; simp only [List.lookup_cons, hx]; exact ih h
theorem relabel_back {env : Env} : ∀ {names : List (Str × NameKind)} {x : Str} {q : NameKind}, (∀ y ∈ names, y.2 ≠ .cell) → (q = .cell ∨ q = .free) →
    (names.map fun (n, k) => if (k == NameKind.free && env.scope.kind == .function && env.kindOf n == some .cell) then (n, NameKind.cell) else (n, k)).lookup x = some q → (x, NameKind.free) ∈ names
  | [], _, _, _, _, h => by simp at h
  | (n, k) :: r, x, q, hn, hq, h => by
    have ih := @relabel_back env r x q (fun y hy => hn y (List.mem_cons_of_mem _ hy)) hq
    have h' : List.lookup x ((if (k == NameKind.free && env.scope.kind == .function && env.kindOf n == some .cell) = true then (n, NameKind.cell) else (n, k)) :: (r.map fun (n, k) => if (k == NameKind.free && env.scope.kind == .function && env.kindOf n == some .cell) then (n, NameKind.cell) else (n, k))) = some q := h
    cases hx : x == n with
    | true =>
      have e : x = n := by simpa using hx
      subst e
      by_cases hc : (k == NameKind.free && env.scope.kind == .function && env.kindOf x == some .cell) = true
      · simp only [Bool.and_eq_true, beq_iff_eq] at hc
        rw [hc.1.1]; exact List.mem_cons_self
      · rw [if_neg hc] at h'
        simp only [List.lookup_cons, beq_self_eq_true] at h'
        cases h'
        rcases hq with rfl | rfl
        · exact absurd rfl (hn (x, .cell) List.mem_cons_self)
        · exact List.mem_cons_self
    | false =>
      refine List.mem_cons_of_mem _ (ih ?_)
      by_cases hc : (k == NameKind.free && env.scope.kind == .function && env.kindOf n == some .cell) = true
      · rw [if_pos hc] at h'; simp only [List.lookup_cons, hx] at h'; exact h'
      · rw [if_neg hc] at h'; simp only [List.lookup_cons, hx] at h'; exact h'

section
variable {X : Cx} {pins : List (Addr × Obj)} {σ : St} {H : Hp} {s s' : Shared} {scope : Scope} {N' : List Str} {nt : Nat} {cs : List Nat} {C : Addr} {fp : List Addr} {h' : Heap} {t' : Nat}
/-- into the block: C the block's new namespace -/
theorem lc_enter (I : Inv X pins σ H s) (L : LcOk X scope N' nt cs) (hf : ∀ b ∈ fp, FpOk X pins H b) (hC : s.heap.objs.size ≤ C) (k : ∀ b u, s.heap.get? b = some u → h'.get? b = some u) (hns : h'.Ns C fun _ => none) (fpo : ∀ b ∈ fp, b < s.heap.objs.size) :
    Inv (lcCx X N' scope s H C fp) [] (lcS nt cs σ) H { s with heap := h', toks := t' } := by
  have hfree : H C = none := I.hok.fresh hC
  have csub : ∀ x c, (clos X.env.cells scope.names []).lookup x = some c → X.env.cells.lookup x = some c := clos_sub _ _ fun x c h => by simp at h
  have chas : ∀ x, (x, NameKind.free) ∈ scope.names → ((clos X.env.cells scope.names []).lookup x).isSome = true := fun x hx => by
    refine clos_has _ _ x hx ?_
    obtain ⟨c, e⟩ := I.ok.has x (L.fr x hx)
    rw [e]; rfl
  have I4 : Inv X pins σ H { s with heap := h', toks := t' } := I.kept k
  refine ⟨⟨I.ok.mod, L.kind, I.ok.glob, I.ok.blt, hC, fun x y c h1 h2 => I.ok.inj x y c (csub x c h1) (csub y c h2), fun x hx => ?_, fun x c hx => (nomatch hx), I.ok.hd, I.ok.frames, .inl rfl, fun b hb => ⟨?_, fun x c e => ?_⟩, I.bs, Nat.le_trans I.ok.bsz I.sz, fun b o e hb => ?_, fun b hb => ?_, I.stack, I.stkFree⟩,
    rfl, I.bare, Un.kept k, ⟨_, hns, fun i x v e1 e2 e3 => ?_⟩, fun x c e => ?_, hfree, fun x c e => I.freeC x c (csub x c e), fun p hp => absurd (show p ∈ ([] : List (Addr × Obj)) from hp) (by simp), I4.hok, ?_⟩
  · have hx' : (x, NameKind.free) ∈ scope.names := by
      rcases hx with hx | hx
      · exact relabel_back (env := X.env) L.nocell (.inl rfl) hx
      · exact relabel_back (env := X.env) L.nocell (.inr rfl) hx
    exact Option.isSome_iff_exists.mp (chas x hx')
  · exact Nat.ne_of_lt (Nat.lt_of_lt_of_le (fpo b hb) hC)
  · exact (hf b hb).2.2.2.2.1 x c (csub x c e)
  · obtain ⟨f0, f1, f2, f3, _⟩ := hf b hb
    rcases f3 with z | z
    · exact I.ok.noex b o e z
    · exact absurd (Nat.lt_of_lt_of_le (Heap.lt_size e) (Nat.le_trans I.ok.bsz z)) (Nat.lt_irrefl _)
  · obtain ⟨f0, f1, f2, f3, _⟩ := hf b hb
    intro z
    rcases List.mem_cons.mp (I.stkSub b z) with q | q
    · exact f1 q
    · exact f2 q
  · -- a captured name
    have e2' : (lcS nt cs σ)[i]? = some (some v) := e2
    unfold lcS at e2'
    by_cases hi : i < nt
    · rw [List.getElem?_append_left (by simpa using hi), List.getElem?_replicate] at e2'
      split at e2' <;> cases e2'
    · rw [List.getElem?_append_right (by simpa using hi), List.length_replicate, List.getElem?_map] at e2'
      cases ej : cs[i - nt]? with
      | none => rw [ej] at e2'; cases e2'
      | some j =>
        rw [ej] at e2'
        have e2'' : (σ[j]?).getD none = some v := Option.some.inj e2'
        have hσ : σ[j]? = some (some v) := by
          cases q : σ[j]? with
          | none => rw [q] at e2''; cases e2''
          | some z => rw [q] at e2''; exact congrArg some e2''
        obtain ⟨y, y1, y2, y3, y4, y5⟩ := L.cap _ _ ej
        have hxy : x = y := by
          have e1' : N'[i]? = some x := e1
          rw [show nt + (i - nt) = i by omega, e1'] at y1
          exact Option.some.inj y1
        subst hxy
        obtain ⟨m, hn, hl⟩ := I4.loc
        obtain ⟨u, r, l⟩ := hl j x v y2 hσ y4
        refine ⟨u, r, .inr ⟨relabel_free (env := X.env) y3, ?_⟩⟩
        rcases l with ⟨l, _⟩ | ⟨_, c, hc, hcell⟩
        · exact absurd l y5
        · refine ⟨c, ?_, hcell⟩
          obtain ⟨d, hd⟩ := Option.isSome_iff_exists.mp (chas x (PySem.mem_of_lookup y3))
          have := csub x d hd
          rw [hc] at this
          cases this
          exact hd
  · exact I4.cell x c (csub x c e)
  · show (lcS nt cs σ).length = N'.length
    unfold lcS
    rw [L.len]; simp
/-- out of the block -/
theorem lc_leave {σ2 : St} {H2 : Hp} (I : Inv X pins σ H s) (hf : ∀ b ∈ fp, FpOk X pins H b) (J : Inv (lcCx X N' scope s H C fp) [] σ2 H2 s') : Inv X pins σ H2 s' :=
  I.call' (ch := fp) J.os J.base J.hok J.bare fun b hb => by
    obtain ⟨f0, f1, f2, f3, f4, f5⟩ := hf b hb
    exact ⟨f3, f1, f4, f5⟩
end

/-! ### the tests of a clause -/
def PIfs (X : Cx) (ifs : List Expr) (t : TT) : Prop :=
  ∀ (pins : List (Addr × Obj)) (s : Shared) (σ : St) (H : Hp) (Q : Bool → Hp → Prop), Inv X pins σ H s → t σ H Q →
    wpAny (model X.prog X.w) X.A (forIn ifs true fun c r => if r = true then do let ok ← isTrue c X.env (eval c X.env); pure (ForInStep.yield ok) else pure (ForInStep.yield r)) (TP X pins σ Q) X.xe s
def tTrue : TT := fun _ H Q => Q true H
theorem pifs_nil {X : Cx} : PIfs X [] tTrue := fun _ _ _ H _ I h => wpAny_tests_nil ⟨H, I, h⟩
/-- [elt for target in iter if ..]: nt targets, cs the captured slots -/
def LCG (nt : Nat) (cs : List Nat) (g : TG) (tt : TT) (te : TE) (σ : St) (Q : VK) (J : It) (H1 : Hp) : Prop := ∀ l, H1 l = none → ∃ W : Nat → Nat → Hp → Prop, (∃ m, W 0 m (upd H1 l (.lst []))) ∧ ∀ i m H2, W i m H2 →
  (J.stop i H2 ∧ Q (.ref l) H2) ∨ (J.go i H2 ∧ ∃ N : Hp → Prop, (∀ H', N H' → ∃ m', m' < m ∧ W (i + 1) m' H') ∧ ∀ x H3, J.yld i H2 x H3 → g x (lcS nt cs σ) H3 fun σ2 H4 =>
    (σ2.length = nt + cs.length ∧ σ2.drop nt = (lcS nt cs σ).drop nt) ∧ tt σ2 H4 fun b H5 => if b = true then te σ2 H5 fun y H6 => ∃ xs, H6 l = some (.lst xs) ∧ xs.length < sizeLine ∧ N (upd H6 l (.lst (xs ++ [y]))) else N H5)
def tLC (nt : Nat) (cs : List Nat) (wi : TI) (g : TG) (tt : TT) (te : TE) : TE := fun σ H Q => wi σ H fun J H1 => LCG nt cs g tt te σ Q J H1

theorem lc_turn {prog : Program} {w : World} {A : Around} {R : Result → Shared → Prop} {s : Shared} {elt target iter : Expr} {ifs : List Expr} {scope : Scope} {pos : Pos} {it acc : Value} {env : Env} (I : Nat → Shared → Prop)
    (turn : ∀ n s, I n s → wpAny (model prog w) A (pyNext it) (fun r s₁ => match r with
      | none => R (.ok .next) s₁
      | some v => wpAny (model prog w) A (letOwnedTupleGo target it v) (fun _ s₁' => wpAny (model prog w) A (assign target env v) (fun _ s₂ =>
          wpAny (model prog w) A (forIn ifs true fun c r => if r = true then do let ok ← isTrue c env (eval c env); pure (ForInStep.yield ok) else pure (ForInStep.yield r)) (fun ok s₃ =>
            if ok = true then wpAny (model prog w) A (eval elt env) (fun x s₄ =>
              wpAny (model prog w) A (call (.builtin "list.append") [acc, x]) (fun _ s₅ => ∃ m, m < n ∧ I m s₅) (fun _ _ => False) s₄) (fun _ _ => False) s₃
            else ∃ m, m < n ∧ I m s₃) (fun _ _ => False) s₂) (fun _ _ => False) s₁') (fun _ _ => False) s₁) (fun _ _ => False) s)
    (n : Nat) (h : I n s) : codeAny (model prog w) A (.compLoop (.ListComp elt [⟨target, iter, ifs, 0⟩] scope pos) 0 it acc env) R s := by
  refine codeAny_loop rfl I (fun n s hI => ?_) n h
  show wpAny _ A ((compTurn (.ListComp elt [⟨target, iter, ifs, 0⟩] scope pos) 0 it acc env).onRaise (fun x => do noteFrame x env; theTreesLotGoes x)) _ _ s
  refine wpAny_noted ?_
  rw [compTurn_list]
  refine wpAny_bind (wpAny_standAt (wpAny_bind (wpAny_mono (turn n s hI) (fun r s₁ h₁ => ?_) fun _ _ h' => h'.elim)))
  cases r with
  | none => exact wpAny_pure h₁
  | some v =>
    refine wpAny_bind (wpAny_mono h₁ (fun _ s₁' h₁' => ?_) fun _ _ h' => h'.elim)
    refine wpAny_bind (wpAny_mono h₁' (fun _ s₂ h₂ => wpAny_bind (wpAny_mono h₂ (fun ok s₃ h₃ => ?_) fun _ _ h' => h'.elim)) fun _ _ h' => h'.elim)
    cases ok with
    | false => exact wpAny_pure ⟨rfl, h₃⟩
    | true =>
      exact wpAny_bind (wpAny_bind (wpAny_mono h₃ (fun x s₄ h₄ => wpAny_bind (wpAny_mono h₄ (fun _ s₅ h₅ => wpAny_pure (wpAny_pure ⟨rfl, h₅⟩)) fun _ _ h' => h'.elim)) fun _ _ h' => h'.elim))

section
variable {X : Cx} {elt target iter : Expr} {ifs : List Expr} {scope : Scope} {pos : Pos} {N' : List Str} {nt : Nat} {cs : List Nat} {wi : TI} {g : TG} {tt : TT} {te : TE}
theorem lc_core {use : Option (Value → Sem Unit)} {QQ : Value → Shared → Prop} {p2 : Pos} (hc : X.calm = true) (L : LcOk X scope N' nt cs) (hi : PI X target iter wi)
    (hg : ∀ s H C fp, PG (lcCx X N' scope s H C fp) target g) (ht : ∀ s H C fp, PIfs (lcCx X N' scope s H C fp) ifs tt) (he : ∀ s H C fp, PE (lcCx X N' scope s H C fp) elt te)
    {pins : List (Addr × Obj)} {s : Shared} {σ : St} {H : Hp} {Q : VK} (I : Inv X pins σ H s) (h : tLC nt cs wi g tt te σ H Q)
    (fin : ∀ (l : Addr) (H' : Hp) (s' : Shared) (C : Addr), Inv X pins σ H' s' → FpOk X pins H' C → (∃ m, s'.heap.Ns C m) → Q (.ref l) H' → compPost (model X.prog X.w) X.A X.xe use QQ (.ref l) C (.ok .next) s')
    (hs : ∀ x, foldedSetIterable iter X.env x = pure x := by intro _; rfl) :
    wpAny (model X.prog X.w) X.A (comprehension (.ListComp elt [⟨target, iter, ifs, 0⟩] scope pos) scope X.env p2 (newList []) false (eval iter X.env) use) QQ X.xe s := by
  have hcl : closureFor scope X.env = pure (clos X.env.cells scope.names []) := closure_eq fun x hx => by
    obtain ⟨c, e⟩ := I.ok.has x (L.fr x hx)
    rw [e]; rfl
  refine wpAny_comprehension_free (env := X.env) rfl hs hcl L.kind L.loc (thn (hi pins s σ H _ I h) fun v s1 h1 => thn h1 fun itv s2 h2 => ?_)
  obtain ⟨it, fp, tn, J, H1, e, I2, T, st2, f2, R⟩ := h2
  subst e
  refine wpAny_newObj_type ?_
  have hv : Vals [] ([] : List Value) := .nil
  have I3 := I2.lnew (t' := s2.toks) hv (Nat.zero_le _)
  have hfr : H1 s2.heap.objs.size = none := I2.fresh
  have ne3 : ∀ b ∈ fp, b ≠ s2.heap.objs.size := fun b hb z => by
    obtain ⟨o, e, _⟩ := T.obj _ _ st2 b hb
    have := Heap.lt_size e
    rw [z] at this
    exact Nat.lt_irrefl _ this
  have f3 : ∀ b ∈ fp, FpOk X pins (upd H1 s2.heap.objs.size (.lst [])) b := fun b hb => ⟨by rw [upd_ne (ne3 b hb)]; exact (f2 b hb).1, (f2 b hb).2⟩
  obtain ⟨W, ⟨m0, w0⟩, turn⟩ := R _ hfr
  refine wpAny_newFunctionEnv L.nocell (by intro y hy; simp at hy) (fun h4 hns hsb => ?_) L.kind
  dsimp only at hns hsb ⊢
  generalize hH3 : s2.heap.push { cls := .type "list", dict := none, data := .seq ([] : List Value).toArray } = h3 at hns hsb I3 ⊢
  have hsz3 : h3.objs.size = s2.heap.objs.size + 1 := by rw [← hH3, Heap.size_push]
  have up4 : ∀ b u, h3.get? b = some u → h4.get? b = some u := fun b u e => hsb.extBut b u (Nat.ne_of_lt (Heap.lt_size e)) (Heap.get?_push_of_some _ e)
  have fpo : ∀ b ∈ fp, b < h3.objs.size := fun b hb => by
    obtain ⟨o, e, _⟩ := T.obj _ _ st2 b hb
    exact Nat.lt_of_lt_of_le (Heap.lt_size e) (by rw [hsz3]; exact Nat.le_succ _)
  have up3 : ∀ b u, s2.heap.get? b = some u → h3.get? b = some u := fun b u e => hH3 ▸ Heap.get?_push_of_some _ e
  have J4 : Inv (lcCx X N' scope { s2 with heap := h3 } (upd H1 s2.heap.objs.size (.lst [])) h3.objs.size fp) [] (lcS nt cs σ) (upd H1 s2.heap.objs.size (.lst [])) { s2 with heap := h4, toks := s2.toks + ([] : List (Str × Value)).length } :=
    lc_enter (t' := s2.toks + ([] : List (Str × Value)).length) I3 L f3 (Nat.le_refl _) up4 (by simpa using hns) fpo
  have st4 : tn 0 h4 := T.keep _ _ _ st2 fun b hb o e => up4 b o (up3 b o e)
  generalize hs3 : ({ s2 with heap := h3 } : Shared) = s3 at I3 J4
  generalize hX' : lcCx X N' scope s3 (upd H1 s2.heap.objs.size (.lst [])) h3.objs.size fp = X' at J4
  have hg' : PG X' target g := hX' ▸ hg _ _ _ _
  have ht' : PIfs X' ifs tt := hX' ▸ ht _ _ _ _
  have he' : PE X' elt te := hX' ▸ he _ _ _ _
  have stat : ∀ {H' : Hp}, (∀ b ∈ fp, H' b = none) → ∀ b ∈ fp, FpOk X' [] H' b := fun hn b hb => by
    subst hX'
    refine ⟨hn b hb, Nat.ne_of_lt (fpo b hb), J4.ok.exfs b hb, .inl hb, (J4.ok.exf b hb).2, fun p hp => absurd (show p ∈ ([] : List (Addr × Obj)) from hp) (by simp)⟩
  have loop : codeAny (model X.prog X.w) X.A (.compLoop (.ListComp elt [⟨target, iter, ifs, 0⟩] scope pos) 0 (.ref it) (.ref s2.heap.objs.size) (compEnvC scope (clos X.env.cells scope.names []) h3.objs.size X.env))
      (compPost (model X.prog X.w) X.A X.xe use QQ (.ref s2.heap.objs.size) h3.objs.size) { s2 with heap := h4, toks := s2.toks + ([] : List (Str × Value)).length } := by
    have eA : X'.A = X.A := by subst hX'; rfl
    have eP : X'.prog = X.prog := by subst hX'; rfl
    have eW : X'.w = X.w := by subst hX'; rfl
    have eK : X'.K = X.K := by subst hX'; rfl
    have eC : X'.calm = true := by subst hX'; exact hc
    have eE : X'.env = compEnvC scope (clos X.env.cells scope.names []) h3.objs.size X.env := by subst hX'; rfl
    have eX : X'.xe = fun _ _ => False := by subst hX'; rfl
    refine lc_turn (fun n s' => ∃ i H', Inv X' [] (lcS nt cs σ) H' s' ∧ tn i s'.heap ∧ (∀ b ∈ fp, H' b = none) ∧ W i n H') ?_ m0 ⟨0, _, J4, st4, fun b hb => (f3 b hb).1, w0⟩
    rintro n s5 ⟨i, H5, J5, st5, fr5, w5⟩
    rcases turn i n H5 w5 with ⟨stop, qn⟩ | ⟨go, N, hN, step⟩
    · have d := T.done X' eP eW eK eC i [] s5 (lcS nt cs σ) H5 (fun _ _ => False) J5 (stat fr5) st5 stop
      rw [eA] at d
      refine thn d fun r s6 ⟨hr, J6⟩ => ?_
      subst hr
      have I6 : Inv X pins σ H5 s6 := by subst hX'; subst hs3; exact lc_leave I3 f3 J6
      refine fin _ H5 s6 h3.objs.size I6 ?_ ?_ qn
      · have hn : H5 h3.objs.size = none := by subst hX'; exact J6.free
        subst hs3
        exact I3.fpOk (Nat.le_refl _) hn
      · obtain ⟨m, hm, _⟩ := J6.loc
        subst hX'
        exact ⟨m, hm⟩
    · have d := T.item X' eP eW eK eC i [] s5 (lcS nt cs σ) H5 (fun _ _ => False) J5 (stat fr5) st5 go
      rw [eA] at d
      refine thn d fun r s6 ⟨u, hr, h6⟩ => ?_
      subst hr
      refine thn h6 fun _ s7 ⟨x, H7, J7, r7, y7, st7, fr7⟩ => ?_
      have J7' := J7.pinned (stat fr7) (T.obj _ _ st7)
      have a := hg' _ s7 (lcS nt cs σ) H7 x u _ J7' r7 (step x H7 y7)
      rw [eA, eP, eW, eE, eX] at a
      refine thn a fun _ s8 ⟨σ8, H8, J8, ⟨e8, d8⟩, q8⟩ => ?_
      have b := ht' _ s8 σ8 H8 _ J8 q8
      rw [eA, eP, eW, eE, eX] at b
      have again : ∀ {s9 : Shared} {H9 : Hp}, Inv X' ([] ++ pinsAt fp s7.heap) σ8 H9 s9 → N H9 → ∃ m, m < n ∧ ∃ i H', Inv X' [] (lcS nt cs σ) H' s9 ∧ tn i s9.heap ∧ (∀ b ∈ fp, H' b = none) ∧ W i m H' := fun {s9 H9} J9 n9 => by
        obtain ⟨m', hm, w9⟩ := hN H9 n9
        refine ⟨m', hm, i + 1, H9, ?_, T.keep _ _ _ st7 fun b hb o e => (J9.pin (b, o) (List.mem_append_right _ (List.mem_append_right _ (mem_pinsAt hb e)))).1, fun b hb => ?_, w9⟩
        · refine J9.unpinned.weak ?_ fun j v ej => ?_
          · rw [e8]; unfold lcS; simp
          · by_cases hj : j < nt
            · unfold lcS at ej
              rw [List.getElem?_append_left (by simpa using hj), List.getElem?_replicate] at ej
              split at ej <;> cases ej
            · have z := congrArg (fun l : St => l[j - nt]?) d8
              simp only [List.getElem?_drop] at z
              rw [show nt + (j - nt) = j by omega] at z
              rw [z]; exact ej
        · obtain ⟨o, e, _⟩ := T.obj _ _ st7 b hb
          exact (J9.pin (b, o) (List.mem_append_right _ (List.mem_append_right _ (mem_pinsAt hb e)))).2.1
      refine thn b fun ok s9 ⟨H9, J9, q9⟩ => ?_
      cases ok with
      | false =>
        rw [if_neg Bool.false_ne_true] at q9 ⊢
        exact again J9 q9
      | true =>
        rw [if_pos rfl] at q9 ⊢
        have c := he' _ s9 σ8 H9 _ J9 q9
        rw [eA, eP, eW, eE, eX] at c
        refine thn c fun y sA ⟨vy, HA, JA, ry, xs, hl, hz, nA⟩ => ?_
        have ap := mt_append (X := X') _ sA σ8 HA (.ref s2.heap.objs.size) [vy] (.ref s2.heap.objs.size) [y] (fun _ H' => N H') JA rfl (.cons ry .nil) ⟨_, xs, vy, rfl, rfl, hl, hz, nA⟩
        rw [eA, eP, eW, eX] at ap
        exact thn ap fun _ sB ⟨_, HB, JB, _, nB⟩ => again JB nB
  exact codeAny_compStart_list loop (T.self X.A 0 _ _ _ st4 loop)

/-- [elt for ..] as an expression -/
theorem pe_lc (hc : X.calm = true) (L : LcOk X scope N' nt cs) (hi : PI X target iter wi)
    (hg : ∀ s H C fp, PG (lcCx X N' scope s H C fp) target g) (ht : ∀ s H C fp, PIfs (lcCx X N' scope s H C fp) ifs tt) (he : ∀ s H C fp, PE (lcCx X N' scope s H C fp) elt te)
    (hs : ∀ x, foldedSetIterable iter X.env x = pure x := by intro _; rfl) : PE X (.ListComp elt [⟨target, iter, ifs, 0⟩] scope pos) (tLC nt cs wi g tt te) := by
  intro pins s σ H Q I h
  rw [eval_ListComp]
  refine lc_core (use := none) hc L hi hg ht he I h (fun l H' s' C I' f ⟨m, hm⟩ q => ⟨m, hm, fun h' hs' => ?_⟩) hs
  obtain ⟨f0, f1, f2, f3, f4, f5⟩ := f
  exact ⟨.ref l, H', I'.turned (t' := s'.toks) (fun b o hb e => hs'.extBut b o hb e) f0 f1 f3 f4 f5, rfl, q⟩
end
end L2

set_option Elab.async false
set_option linter.all false
set_option maxRecDepth 100000
set_option maxHeartbeats 4000000
/-! MY OWN ADDITIONS to the hand layer: isinstance, is, not -/
namespace L2
open PySem PySem.Spec PyProof.Rows
section
variable {X : Cx} {a b : Expr} {ta tb : TE} {pos : Pos}
theorem call_isi_str_str : CallR X (.builtin "isinstance") (fun xs H Q => ∃ x, xs = [.str x, .ty "str"] ∧ Q (.bl true) H) := by
  intro pins s σ H xs us Q I r h
  obtain ⟨x, rfl, q⟩ := h
  obtain ⟨u, v, rfl, ⟨t, rfl⟩, rfl⟩ := vals2 r
  exact IsiPair.str_str ⟨.bl true, H, I, rfl, q⟩
theorem call_isi_tup_tuple : CallR X (.builtin "isinstance") (fun xs H Q => ∃ p ys, xs = [.ref p, .ty "tuple"] ∧ SqT X.K H p ys ∧ Q (.bl true) H) := by
  intro pins s σ H xs us Q I r h
  obtain ⟨p, ys, rfl, hq, q⟩ := h
  obtain ⟨u, v, rfl, rfl, rfl⟩ := vals2 r
  obtain ⟨its, _, ⟨o, e, c, _⟩, _⟩ := I.tuple hq
  exact IsiPair.tuple_tuple e c ⟨.bl true, H, I, rfl, q⟩
end
end L2
namespace L2
open PySem PySem.Spec PyProof.Rows
theorem SqL.same {K : PySem.W.Frag} {H H' : Hp} {a : Addr} {xs : List V} (e : Same H H') (h : SqL K H a xs) : SqL K H' a xs := e.seq h
theorem SqT.same {K : PySem.W.Frag} {H H' : Hp} {a : Addr} {xs : List V} (e : Same H H') (h : SqT K H a xs) : SqT K H' a xs := by
  rcases h with (h | ⟨o, h⟩) | h
  · exact .inl (.inl (e _ _ h))
  · exact .inl (.inr ⟨o, e _ _ h⟩)
  · exact .inr h
theorem Same.upd {H : Hp} {l : Addr} {o : HO} (h : H l = none) : Same H (upd H l o) := fun b u e => by rw [upd_ne (ne_of_none e h)]; exact e
end L2
namespace L2
open PySem
theorem atI_neg1 {α : Type} {xs : List α} {v : α} (h : xs.getLast? = some v) : atI xs (-1) = some v := by
  obtain ⟨ys, rfl⟩ := List.getLast?_eq_some_iff.mp h
  exact atI_last ys v
end L2
namespace L2
open PySem
end L2
namespace L2
open PySem
end L2

set_option Elab.async false
set_option linter.all false
set_option maxRecDepth 100000
set_option maxHeartbeats 4000000
/-! MY OWN ADDITIONS to the hand layer: walks that hand out tuples (enumerate, zip) -/
namespace L2
open PySem PySem.Spec PyProof.Rows
section
variable {X : Cx} {pins : List (Addr × Obj)} {σ : St} {H : Hp} {s : Shared} {h' : Heap} {t' : Nat} {wr : List Addr}
end
section
variable {X : Cx} {e : Expr} {ta : TA} {elts : List Expr} {kk : Nat} {tp p pos : Pos}
end
end L2

set_option Elab.async false
set_option linter.all false
set_option maxRecDepth 100000
set_option maxHeartbeats 4000000
/-! MY OWN ADDITIONS to the hand layer: ranges as values, downward ranges, the least of three -/
namespace L2
open PySem PySem.Spec PyProof.Rows
/-- a range object of any step -/
def RngO (r : Addr) (a b c : Int) : HO := .ext fun h => ∃ t u v, IsRange h r a b c t u v
section
variable {X : Cx} {pins : List (Addr × Obj)} {σ : St} {H : Hp} {s : Shared}
theorem Inv.rng {a b c : Int} {t u v : Tok} {t' : Nat} (I : Inv X pins σ H s) : Inv X pins σ (upd H s.heap.objs.size (RngO s.heap.objs.size a b c)) { s with heap := s.heap.push { cls := .type "range", data := .fields #[.int a t, .int b u, .int c v] }, toks := t' } :=
  I.laid (fun _ _ q => Heap.get?_push_of_some _ q) (Nat.le_refl _) ⟨⟨t, u, v, Heap.get?_push_size _ rfl⟩, ⟨_, Heap.get?_push_size _ rfl⟩, fun h1 h2 ⟨t1, u1, v1, z⟩ k => ⟨t1, u1, v1, k _ z⟩⟩
end
section
variable {X : Cx} {e1 e2 e3 : Expr} {ta : TA} {p pos : Pos} {tg : Expr}
theorem vals3 {x y z : V} {us : List Value} (r : Vals [x, y, z] us) : ∃ u v w', us = [u, v, w'] ∧ RelV x u ∧ RelV y v ∧ RelV z w' := by
  cases r with
  | cons r1 r2 =>
    obtain ⟨v, w', rfl, a, b⟩ := vals2 r2
    exact ⟨_, v, w', rfl, r1, a, b⟩
end
end L2
namespace L2
open PySem PySem.Spec PyProof.Rows
section
variable {X : Cx}
end
end L2
namespace L2
open PySem
end L2

set_option Elab.async false
set_option linter.all false
set_option maxRecDepth 100000
set_option maxHeartbeats 4000000
/-! MY OWN ADDITIONS to the hand layer: two texts walked side by side -/
namespace L2
open PySem PySem.Spec PyProof.Rows
structure ZipAp (z TI TO i1 i2 : Addr) (fp1 fp2 : List Addr) : Prop where
  TIz : TI ≠ z
  TOz : TO ≠ z
  i1z : i1 ≠ z
  i2z : i2 ≠ z
  TITO : TI ≠ TO
  TIi1 : TI ≠ i1
  TIi2 : TI ≠ i2
  TOi1 : TO ≠ i1
  TOi2 : TO ≠ i2
  i12 : i1 ≠ i2
  m1 : i1 ∈ fp1
  m2 : i2 ∈ fp2
  f1 : ∀ b ∈ fp1, b ≠ z ∧ b ≠ TO ∧ b ≠ i2
  f2 : ∀ b ∈ fp2, b ≠ z ∧ b ≠ TO ∧ b ≠ i1
section
variable {prog : Program} {w : World} {A : Around} {E : Value → Shared → Prop} {s : Shared}
end
section
variable {prog : Program} {w : World} {A : Around} {E : Value → Shared → Prop} {s : Shared}
end
section
variable {X : Cx} {e1 e2 : Expr} {ta : TA} {elts : List Expr} {kk : Nat} {tp p pos : Pos}
end
end L2

set_option Elab.async false
set_option linter.all false
set_option maxRecDepth 100000
set_option maxHeartbeats 4000000
/-! MY OWN ADDITIONS to the hand layer: list(reversed(list)) -/
namespace L2
open PySem PySem.Spec PyProof.Rows
section
variable {prog : Program} {w : World} {A : Around} {E : Value → Shared → Prop} {s : Shared}
end
section
variable {X : Cx} {pins : List (Addr × Obj)} {σ : St} {H : Hp} {s : Shared} {h' : Heap} {t' : Nat} {wr : List Addr}
end
section
variable {X : Cx} {e1 : Expr} {ta : TA} {p pos p2 pos2 : Pos}
end
end L2

namespace L2
open PySem
end L2

set_option Elab.async false
set_option linter.all false
set_option maxRecDepth 100000
set_option maxHeartbeats 4000000
/-! MY OWN ADDITIONS to the hand layer: data, whole; what stands in the slots, without the heap -/
namespace L2
open PySem PySem.Spec PyProof.Rows
inductive D where
  | non | bl (b : Bool) | int (i : Int) | str (l : List Nat) | lst (xs : List D) | tup (xs : List D)
instance : Inhabited D := ⟨.non⟩
mutual
def D.beq : D → D → Bool
  | .non, .non => true
  | .bl a, .bl b => a == b
  | .int a, .int b => a == b
  | .str a, .str b => a == b
  | .lst a, .lst b => D.beqs a b
  | .tup a, .tup b => D.beqs a b
  | _, _ => false
def D.beqs : List D → List D → Bool
  | [], [] => true
  | a :: x, b :: y => a.beq b && D.beqs x y
  | _, _ => false
end
mutual
theorem D.beq_iff : ∀ a b : D, a.beq b = true ↔ a = b
  | .non, b => by cases b <;> simp [D.beq]
  | .bl _, b => by cases b <;> simp [D.beq]
  | .int _, b => by cases b <;> simp [D.beq]
  | .str _, b => by cases b <;> simp [D.beq]
  | .lst a, b => by cases b <;> simp [D.beq, D.beqs_iff a]
  | .tup a, b => by cases b <;> simp [D.beq, D.beqs_iff a]
theorem D.beqs_iff : ∀ a b : List D, D.beqs a b = true ↔ a = b
  | [], b => by cases b <;> simp [D.beqs]
  | a :: x, b => by cases b <;> simp [D.beqs, D.beq_iff a, D.beqs_iff x]
end
instance : DecidableEq D := fun a b => decidable_of_iff _ (D.beq_iff a b)
mutual
/-- how deep -/
def D.dep : D → Nat
  | .lst a => D.deps a + 1
  | .tup a => D.deps a + 1
  | _ => 0
def D.deps : List D → Nat
  | [] => 0
  | a :: x => max a.dep (D.deps x)
end
mutual
/-- no truth in it -/
def D.nb : D → Bool
  | .bl _ => false
  | .lst a => D.nbs a
  | .tup a => D.nbs a
  | _ => true
def D.nbs : List D → Bool
  | [] => true
  | a :: x => a.nb && D.nbs x
end

/-! ### data as it lies -/
section
variable (K : PySem.W.Frag) (H : Hp)
mutual
def Rep : D → V → Prop
  | .non, v => v = .non
  | .bl b, v => v = .bl b
  | .int i, v => v = .int i
  | .str l, v => v = .str (T l) ∧ ∀ c ∈ l, c < 128
  | .lst ds, v => ∃ p xs, v = .ref p ∧ SqL K H p xs ∧ Reps ds xs
  | .tup ds, v => ∃ p xs, v = .ref p ∧ SqT K H p xs ∧ Reps ds xs
def Reps : List D → List V → Prop
  | [], xs => xs = []
  | d :: ds, xs => ∃ x r, xs = x :: r ∧ Rep d x ∧ Reps ds r
end
end
section
variable {K : PySem.W.Frag} {H H' : Hp}
mutual
theorem Rep.mono (s : Same H H') : ∀ {d : D} {v : V}, Rep K H d v → Rep K H' d v
  | .non, _, h => by simpa [Rep] using h
  | .bl _, _, h => by simpa [Rep] using h
  | .int _, _, h => by simpa [Rep] using h
  | .str _, _, h => by simpa [Rep] using h
  | .lst ds, _, h => by
    rw [Rep] at h ⊢
    obtain ⟨p, xs, e, q, r⟩ := h
    exact ⟨p, xs, e, SqL.same s q, Reps.mono s r⟩
  | .tup ds, _, h => by
    rw [Rep] at h ⊢
    obtain ⟨p, xs, e, q, r⟩ := h
    exact ⟨p, xs, e, SqT.same s q, Reps.mono s r⟩
theorem Reps.mono (s : Same H H') : ∀ {ds : List D} {xs : List V}, Reps K H ds xs → Reps K H' ds xs
  | [], _, h => by simpa [Reps] using h
  | d :: ds, _, h => by
    rw [Reps] at h ⊢
    obtain ⟨x, r, e, a, b⟩ := h
    exact ⟨x, r, e, Rep.mono s a, Reps.mono s b⟩
end
theorem Reps.nil : Reps K H [] [] := by rw [Reps]
theorem Reps.cons {d : D} {ds : List D} {x : V} {xs : List V} (a : Rep K H d x) (b : Reps K H ds xs) : Reps K H (d :: ds) (x :: xs) := by rw [Reps]; exact ⟨x, xs, rfl, a, b⟩
theorem Reps.length : ∀ {ds : List D} {xs : List V}, Reps K H ds xs → ds.length = xs.length
  | [], _, h => by rw [Reps] at h; subst h; rfl
  | d :: ds, _, h => by
    rw [Reps] at h
    obtain ⟨x, r, rfl, _, b⟩ := h
    simp [b.length]
theorem Reps.get : ∀ {ds : List D} {xs : List V} {i : Nat} {x : V}, Reps K H ds xs → xs[i]? = some x → ∃ d, ds[i]? = some d ∧ Rep K H d x
  | [], _, _, _, h, e => by rw [Reps] at h; subst h; simp at e
  | d :: ds, _, 0, _, h, e => by
    rw [Reps] at h
    obtain ⟨y, r, rfl, a, _⟩ := h
    cases e
    exact ⟨d, rfl, a⟩
  | d :: ds, _, i + 1, _, h, e => by
    rw [Reps] at h
    obtain ⟨y, r, rfl, _, b⟩ := h
    exact Reps.get (i := i) b e
theorem Reps.get' : ∀ {ds : List D} {xs : List V} {i : Nat} {d : D}, Reps K H ds xs → ds[i]? = some d → ∃ x, xs[i]? = some x ∧ Rep K H d x := fun {ds xs i d} h e => by
  have hl := h.length
  have hi := (List.getElem?_eq_some_iff.mp e).1
  obtain ⟨d', e', r⟩ := h.get (i := i) (x := xs[i]'(by omega)) (List.getElem?_eq_getElem _)
  rw [e] at e'; cases e'
  exact ⟨_, List.getElem?_eq_getElem _, r⟩
theorem Reps.append : ∀ {ds es : List D} {xs ys : List V}, Reps K H ds xs → Reps K H es ys → Reps K H (ds ++ es) (xs ++ ys)
  | [], _, _, _, h, h2 => by rw [Reps] at h; subst h; exact h2
  | d :: ds, _, _, _, h, h2 => by
    rw [Reps] at h
    obtain ⟨y, r, rfl, a, b⟩ := h
    exact Reps.cons a (Reps.append b h2)
theorem Reps.snoc {ds : List D} {xs : List V} {d : D} {x : V} (h : Reps K H ds xs) (a : Rep K H d x) : Reps K H (ds ++ [d]) (xs ++ [x]) := h.append (.cons a .nil)
theorem Reps.drop : ∀ (n : Nat) {ds : List D} {xs : List V}, Reps K H ds xs → Reps K H (ds.drop n) (xs.drop n)
  | 0, _, _, h => h
  | n + 1, [], _, h => by rw [Reps] at h; subst h; exact Reps.nil
  | n + 1, d :: ds, _, h => by
    rw [Reps] at h
    obtain ⟨y, r, rfl, _, b⟩ := h
    exact Reps.drop n b
theorem Reps.take : ∀ (n : Nat) {ds : List D} {xs : List V}, Reps K H ds xs → Reps K H (ds.take n) (xs.take n)
  | 0, _, _, h => Reps.nil
  | n + 1, [], _, h => by rw [Reps] at h; subst h; exact Reps.nil
  | n + 1, d :: ds, _, h => by
    rw [Reps] at h
    obtain ⟨y, r, rfl, a, b⟩ := h
    exact Reps.cons a (Reps.take n b)
theorem Reps.set {d : D} {x : V} (a : Rep K H d x) : ∀ (n : Nat) {ds : List D} {xs : List V}, Reps K H ds xs → Reps K H (ds.set n d) (xs.set n x)
  | _, [], _, h => by rw [Reps] at h; subst h; exact Reps.nil
  | 0, e :: ds, _, h => by
    rw [Reps] at h
    obtain ⟨y, r, rfl, _, b⟩ := h
    exact Reps.cons a b
  | n + 1, e :: ds, _, h => by
    rw [Reps] at h
    obtain ⟨y, r, rfl, c, b⟩ := h
    exact Reps.cons c (Reps.set a n b)
theorem Reps.reverse : ∀ {ds : List D} {xs : List V}, Reps K H ds xs → Reps K H ds.reverse xs.reverse
  | [], _, h => by rw [Reps] at h; subst h; exact Reps.nil
  | d :: ds, _, h => by
    rw [Reps] at h
    obtain ⟨y, r, rfl, a, b⟩ := h
    rw [List.reverse_cons, List.reverse_cons]
    exact (Reps.reverse b).snoc a
theorem Rep.lst {ds : List D} {p : Addr} {xs : List V} (q : SqL K H p xs) (r : Reps K H ds xs) : Rep K H (.lst ds) (.ref p) := by rw [Rep]; exact ⟨p, xs, rfl, q, r⟩
theorem Rep.tup {ds : List D} {p : Addr} {xs : List V} (q : SqT K H p xs) (r : Reps K H ds xs) : Rep K H (.tup ds) (.ref p) := by rw [Rep]; exact ⟨p, xs, rfl, q, r⟩
theorem Rep.int {i : Int} : Rep K H (.int i) (.int i) := by rw [Rep]
theorem Rep.bl {b : Bool} : Rep K H (.bl b) (.bl b) := by rw [Rep]
theorem Rep.str {l : List Nat} (h : ∀ c ∈ l, c < 128) : Rep K H (.str l) (.str (T l)) := by rw [Rep]; exact ⟨rfl, h⟩
theorem Rep.non : Rep K H .non .non := by rw [Rep]
theorem Rep.of_int {i : Int} {v : V} (h : Rep K H (.int i) v) : v = .int i := by rw [Rep] at h; exact h
theorem Rep.of_bl {b : Bool} {v : V} (h : Rep K H (.bl b) v) : v = .bl b := by rw [Rep] at h; exact h
theorem Rep.of_str {l : List Nat} {v : V} (h : Rep K H (.str l) v) : v = .str (T l) := by rw [Rep] at h; exact h.1
theorem Rep.asc {l : List Nat} {v : V} (h : Rep K H (.str l) v) : ∀ c ∈ l, c < 128 := by rw [Rep] at h; exact h.2
theorem Rep.of_non {v : V} (h : Rep K H .non v) : v = .non := by rw [Rep] at h; exact h
theorem Rep.of_lst {ds : List D} {v : V} (h : Rep K H (.lst ds) v) : ∃ p xs, v = .ref p ∧ SqL K H p xs ∧ Reps K H ds xs := by rw [Rep] at h; exact h
theorem Rep.of_tup {ds : List D} {v : V} (h : Rep K H (.tup ds) v) : ∃ p xs, v = .ref p ∧ SqT K H p xs ∧ Reps K H ds xs := by rw [Rep] at h; exact h
theorem Reps.ints {p : Addr} : ∀ (ns : List Int), Reps K H (ns.map D.int) (ns.map V.int)
  | [] => Reps.nil
  | n :: ns => Reps.cons Rep.int (Reps.ints (p := p) ns)
end

/-! ### what a def holds: G, H₀ the frozen part and the heap at its entry; F, H now -/
structure Ext (G H₀ F H : Hp) : Prop where
  gf : Same G F
  fh : Same F H
  hh : Same H₀ H
  no : ∀ b o, H₀ b = some o → F b = G b
theorem Ext.refl {G H : Hp} (s : Same G H) : Ext G H G H := ⟨Same.refl _, s, Same.refl _, fun _ _ _ => rfl⟩
theorem Ext.trans {G H F1 H1 F2 H2 : Hp} (a : Ext G H F1 H1) (b : Ext F1 H1 F2 H2) : Ext G H F2 H2 :=
  ⟨a.gf.trans b.gf, b.fh, a.hh.trans b.hh, fun c o e => (b.no c o (a.hh c o e)).trans (a.no c o e)⟩
/-- a new thing, frozen -/
theorem Ext.newF {G H₀ F H : Hp} (x : Ext G H₀ F H) {p : Addr} {o : HO} (hp : H p = none) : Ext G H₀ (upd F p o) (upd H p o) := by
  have fp : F p = none := x.fh.free hp
  refine ⟨x.gf.trans (Same.upd fp), fun b u e => ?_, x.hh.trans (Same.upd hp), fun b u e => ?_⟩
  · by_cases hb : b = p
    · subst hb; rw [upd_same] at e ⊢; exact e
    · rw [upd_ne hb] at e ⊢; exact x.fh b u e
  · have hb : b ≠ p := fun z => by subst z; have := x.hh b u e; rw [hp] at this; cases this
    rw [upd_ne hb]; exact x.no b u e
/-- a new thing, ours alone -/
theorem Ext.newO {G H₀ F H : Hp} (x : Ext G H₀ F H) {p : Addr} {o : HO} (hp : H p = none) : Ext G H₀ F (upd H p o) :=
  ⟨x.gf, x.fh.trans (Same.upd hp), x.hh.trans (Same.upd hp), x.no⟩
/-- a thing of ours is changed -/
theorem Ext.write {G H₀ F H : Hp} (x : Ext G H₀ F H) {p : Addr} {o : HO} (fp : F p = none) (hp : H₀ p = none) : Ext G H₀ F (upd H p o) :=
  ⟨x.gf, fun b u e => by rw [upd_ne (ne_of_none e fp)]; exact x.fh b u e, fun b u e => by rw [upd_ne (ne_of_none e hp)]; exact x.hh b u e, x.no⟩
/-- a thing of ours is frozen -/
theorem Ext.freeze {G H₀ F H : Hp} (x : Ext G H₀ F H) {p : Addr} {o : HO} (fp : F p = none) (hp : H₀ p = none) (e : H p = some o) : Ext G H₀ (upd F p o) H := by
  refine ⟨x.gf.trans (Same.upd fp), fun b u q => ?_, x.hh, fun b u q => ?_⟩
  · by_cases hb : b = p
    · subst hb; rw [upd_same] at q; cases q; exact e
    · rw [upd_ne hb] at q; exact x.fh b u q
  · rw [upd_ne (ne_of_none q hp)]; exact x.no b u q

/-- a slot: nothing known; a frozen thing; a list of ours; a list of lists of ours -/
inductive Sl where
  | un | d (x : D) | o (p : Addr) (xs : List D) | oo (p : Addr) (qs : List (Addr × List D))
def Sl.ads : Sl → List Addr
  | .un => [] | .d _ => [] | .o p _ => [p] | .oo p qs => p :: qs.map (·.1)
/-- a list of ours at p -/
def OwnL (K : PySem.W.Frag) (H₀ F H : Hp) (p : Addr) (xs : List D) : Prop := H₀ p = none ∧ F p = none ∧ ∃ vs, H p = some (.lst vs) ∧ Reps K F xs vs
def SlOk (K : PySem.W.Frag) (H₀ F H : Hp) (ov : Option V) : Sl → Prop
  | .un => True
  | .d x => ∃ v, ov = some v ∧ Rep K F x v
  | .o p xs => ov = some (.ref p) ∧ OwnL K H₀ F H p xs
  | .oo p qs => ov = some (.ref p) ∧ H₀ p = none ∧ F p = none ∧ H p = some (.lst (qs.map fun q => V.ref q.1)) ∧ ∀ q ∈ qs, OwnL K H₀ F H q.1 q.2
/-- the state: G, H₀ at the entry; L what is known to be frozen -/
structure Sat (K : PySem.W.Frag) (G H₀ L F H : Hp) (σ : St) (ss : List Sl) : Prop where
  ext : Ext G H₀ F H
  fl : Same L F
  len : σ.length = ss.length
  ok : ∀ (i : Nat) s, ss[i]? = some s → SlOk K H₀ F H (σ.getD i none) s
  nd : ∀ (i : Nat) s, ss[i]? = some s → s.ads.Nodup
  ne : ∀ (i j : Nat) s s', i ≠ j → ss[i]? = some s → ss[j]? = some s' → ∀ p ∈ s.ads, p ∉ s'.ads
section
variable {K : PySem.W.Frag} {H₀ F H F' H' : Hp}
theorem OwnL.ext2 {p : Addr} {xs : List D} (h : OwnL K H₀ F H p xs) (e : Ext F H F' H') : OwnL K H₀ F' H' p xs := by
  obtain ⟨h0, fp, vs, hp, r⟩ := h
  exact ⟨h0, (e.no p _ hp).trans fp, vs, e.hh p _ hp, r.mono e.gf⟩
theorem SlOk.ext2 {ov : Option V} {s : Sl} (h : SlOk K H₀ F H ov s) (e : Ext F H F' H') : SlOk K H₀ F' H' ov s := by
  cases s with
  | un => trivial
  | d x => obtain ⟨v, ev, r⟩ := h; exact ⟨v, ev, r.mono e.gf⟩
  | o p xs => exact ⟨h.1, h.2.ext2 e⟩
  | oo p qs =>
    obtain ⟨ev, h0, fp, hp, hq⟩ := h
    exact ⟨ev, h0, (e.no p _ hp).trans fp, e.hh p _ hp, fun q hm => (hq q hm).ext2 e⟩
theorem OwnL.updNe {p a : Addr} {o : HO} {xs : List D} (h : OwnL K H₀ F H p xs) (hn : p ≠ a) : OwnL K H₀ F (upd H a o) p xs := by
  obtain ⟨h0, fp, vs, hp, r⟩ := h
  exact ⟨h0, fp, vs, by rw [upd_ne hn]; exact hp, r⟩
/-- another one's list is changed -/
theorem SlOk.updNe {ov : Option V} {s : Sl} {a : Addr} {o : HO} (h : SlOk K H₀ F H ov s) (hn : a ∉ s.ads) : SlOk K H₀ F (upd H a o) ov s := by
  cases s with
  | un => trivial
  | d x => exact h
  | o p xs => exact ⟨h.1, h.2.updNe fun z => hn (by simp [Sl.ads, z])⟩
  | oo p qs =>
    obtain ⟨ev, h0, fp, hp, hq⟩ := h
    refine ⟨ev, h0, fp, by rw [upd_ne fun z => hn (by simp [Sl.ads, z])]; exact hp, fun q hm => (hq q hm).updNe fun z => hn ?_⟩
    rw [← z]
    exact List.mem_cons_of_mem _ (List.mem_map_of_mem hm)
/-- .. is frozen -/
theorem OwnL.frz {p a : Addr} {o : HO} {xs : List D} (h : OwnL K H₀ F H p xs) (fa : F a = none) (hn : p ≠ a) : OwnL K H₀ (upd F a o) H p xs := by
  obtain ⟨h0, fp, vs, hp, r⟩ := h
  exact ⟨h0, by rw [upd_ne hn]; exact fp, vs, hp, r.mono (Same.upd fa)⟩
theorem SlOk.frz {ov : Option V} {s : Sl} {a : Addr} {o : HO} (h : SlOk K H₀ F H ov s) (fa : F a = none) (hn : a ∉ s.ads) : SlOk K H₀ (upd F a o) H ov s := by
  cases s with
  | un => trivial
  | d x => obtain ⟨v, ev, r⟩ := h; exact ⟨v, ev, r.mono (Same.upd fa)⟩
  | o p xs => exact ⟨h.1, h.2.frz fa fun z => hn (by simp [Sl.ads, z])⟩
  | oo p qs =>
    obtain ⟨ev, h0, fp, hp, hq⟩ := h
    refine ⟨ev, h0, by rw [upd_ne fun z => hn (by simp [Sl.ads, z])]; exact fp, hp, fun q hm => (hq q hm).frz fa fun z => hn ?_⟩
    rw [← z]
    exact List.mem_cons_of_mem _ (List.mem_map_of_mem hm)
/-- what is ours is there -/
theorem SlOk.live {ov : Option V} {s : Sl} (h : SlOk K H₀ F H ov s) {p : Addr} (hp : p ∈ s.ads) : H p ≠ none := by
  cases s with
  | un => simp [Sl.ads] at hp
  | d x => simp [Sl.ads] at hp
  | o q xs =>
    obtain ⟨_, _, _, vs, hq, _⟩ := h
    simp [Sl.ads] at hp; subst hp; rw [hq]; simp
  | oo q qs =>
    obtain ⟨ev, h0, fp, hq, hqs⟩ := h
    rcases List.mem_cons.mp hp with rfl | hp
    · rw [hq]; simp
    · obtain ⟨r, hr, rfl⟩ := List.mem_map.mp hp
      obtain ⟨_, _, vs, hv, _⟩ := hqs r hr
      rw [hv]; simp
end
end L2

set_option Elab.async false
set_option linter.all false
set_option maxRecDepth 100000
set_option maxHeartbeats 4000000
namespace L2
open PySem PySem.Spec PyProof.Rows
section
variable {K : PySem.W.Frag} {G H₀ L F H F' H' : Hp} {σ : St} {ss : List Sl}
theorem Sat.ext2 (S : Sat K G H₀ L F H σ ss) (e : Ext F H F' H') : Sat K G H₀ L F' H' σ ss :=
  ⟨S.ext.trans e, S.fl.trans e.gf, S.len, fun i s hs => (S.ok i s hs).ext2 e, S.nd, S.ne⟩
theorem Sat.get (S : Sat K G H₀ L F H σ ss) {i : Nat} {s : Sl} (hs : ss[i]? = some s) (hn : s ≠ .un) : ∃ v, σ[i]? = some (some v) ∧ SlOk K H₀ F H (some v) s := by
  have hi : i < σ.length := by rw [S.len]; exact (List.getElem?_eq_some_iff.mp hs).1
  have := S.ok i s hs
  rw [List.getD_eq_getElem?_getD, List.getElem?_eq_getElem hi] at this
  simp only [Option.getD_some] at this
  cases hv : σ[i] with
  | none =>
    rw [hv] at this
    cases s with
    | un => exact absurd rfl hn
    | d x => obtain ⟨v, ev, _⟩ := this; cases ev
    | o p xs => obtain ⟨ev, _⟩ := this; cases ev
    | oo p qs => obtain ⟨ev, _⟩ := this; cases ev
  | some v =>
    rw [hv] at this
    exact ⟨v, by rw [List.getElem?_eq_getElem hi, hv], this⟩
theorem Sat.getD (S : Sat K G H₀ L F H σ ss) {i : Nat} {x : D} (hs : ss[i]? = some (.d x)) : ∃ v, σ[i]? = some (some v) ∧ Rep K F x v := by
  obtain ⟨v, e, w, ew, r⟩ := S.get hs (by intro z; cases z)
  cases ew
  exact ⟨v, e, r⟩
theorem Sat.getO (S : Sat K G H₀ L F H σ ss) {i : Nat} {p : Addr} {xs : List D} (hs : ss[i]? = some (.o p xs)) : σ[i]? = some (some (.ref p)) ∧ OwnL K H₀ F H p xs := by
  obtain ⟨v, e, ew, r⟩ := S.get hs (by intro z; cases z)
  cases ew
  exact ⟨e, r⟩
theorem getD_set_self {σ : St} {i : Nat} {v : Option V} (h : i < σ.length) : (σ.set i v).getD i none = v := by
  rw [List.getD_eq_getElem?_getD, List.getElem?_set_self h]; rfl
theorem getD_set_ne {σ : St} {i j : Nat} {v : Option V} (h : i ≠ j) : (σ.set i v).getD j none = σ.getD j none := by
  rw [List.getD_eq_getElem?_getD, List.getElem?_set_ne h, List.getD_eq_getElem?_getD]
theorem set_cases {i j : Nat} {s t : Sl} (h : (ss.set i s)[j]? = some t) : (i = j ∧ t = s ∧ i < ss.length) ∨ (i ≠ j ∧ ss[j]? = some t) := by
  by_cases hj : i = j
  · subst hj
    have hi := (List.getElem?_eq_some_iff.mp h).1
    rw [List.length_set] at hi
    rw [List.getElem?_set_self hi] at h
    exact .inl ⟨rfl, (Option.some.inj h).symm, hi⟩
  · rw [List.getElem?_set_ne hj] at h; exact .inr ⟨hj, h⟩
/-- the i-th slot is another now; the others hold as they did -/
theorem Sat.put {σ' : St} (S : Sat K G H₀ L F H σ ss) {i : Nat} {s : Sl} (ex : Ext G H₀ F' H') (fl : Same L F') (hl : σ'.length = σ.length) (hσ : ∀ j, j ≠ i → σ'.getD j none = σ.getD j none) (hi : i < ss.length → SlOk K H₀ F' H' (σ'.getD i none) s)
    (nd : s.ads.Nodup) (dj : ∀ (j : Nat) s', j ≠ i → ss[j]? = some s' → ∀ p ∈ s.ads, p ∉ s'.ads) (st : ∀ (j : Nat) s', j ≠ i → ss[j]? = some s' → SlOk K H₀ F' H' (σ.getD j none) s') : Sat K G H₀ L F' H' σ' (ss.set i s) := by
  refine ⟨ex, fl, by rw [List.length_set, hl, S.len], fun j t ht => ?_, fun j t ht => ?_, fun j k t u hjk ht hu => ?_⟩
  · rcases set_cases ht with ⟨rfl, rfl, hlt⟩ | ⟨hj, ht⟩
    · exact hi hlt
    · rw [hσ j (Ne.symm hj)]; exact st j t (Ne.symm hj) ht
  · rcases set_cases ht with ⟨rfl, rfl, _⟩ | ⟨hj, ht⟩
    · exact nd
    · exact S.nd j t ht
  · rcases set_cases ht with ⟨rfl, rfl, _⟩ | ⟨hj, ht'⟩
    · rcases set_cases hu with ⟨rfl, rfl, _⟩ | ⟨hk, hu'⟩
      · exact absurd rfl hjk
      · exact dj k u (Ne.symm hk) hu'
    · rcases set_cases hu with ⟨rfl, rfl, _⟩ | ⟨hk, hu'⟩
      · exact fun p hp hp' => dj j t (Ne.symm hj) ht' p hp' hp
      · exact S.ne j k t u hjk ht' hu'
/-- a name is given a frozen thing -/
theorem Sat.setD (S : Sat K G H₀ L F H σ ss) {i : Nat} {x : D} {v : V} (r : Rep K F x v) : Sat K G H₀ L F H (σ.set i (some v)) (ss.set i (.d x)) :=
  S.put S.ext S.fl (by simp) (fun j hj => getD_set_ne (Ne.symm hj)) (fun hi => by rw [getD_set_self (by rw [S.len]; exact hi)]; exact ⟨v, rfl, r⟩) (by simp [Sl.ads]) (fun _ _ _ _ p hp => by simp [Sl.ads] at hp) fun j s' _ h => S.ok j s' h
/-- a name is given a list of ours -/
theorem Sat.setO (S : Sat K G H₀ L F H σ ss) {i : Nat} {xs : List D} {p : Addr} (r : OwnL K H₀ F H p xs) (hne : ∀ (j : Nat) s', j ≠ i → ss[j]? = some s' → p ∉ s'.ads) : Sat K G H₀ L F H (σ.set i (some (.ref p))) (ss.set i (.o p xs)) :=
  S.put S.ext S.fl (by simp) (fun j hj => getD_set_ne (Ne.symm hj)) (fun hi => by rw [getD_set_self (by rw [S.len]; exact hi)]; exact ⟨rfl, r⟩) (by simp [Sl.ads]) (fun j s' hj h q hq => by simp [Sl.ads] at hq; subst hq; exact hne j s' hj h) fun j s' _ h => S.ok j s' h
/-- a list of ours is changed -/
theorem Sat.write (S : Sat K G H₀ L F H σ ss) {i : Nat} {xs ys : List D} {p : Addr} {vs : List V} (hs : ss[i]? = some (.o p xs)) (r : Reps K F ys vs) : Sat K G H₀ L F (upd H p (.lst vs)) σ (ss.set i (.o p ys)) := by
  obtain ⟨e, h0, fp, ws, hp, _⟩ := S.getO hs
  have hget : σ.getD i none = some (.ref p) := by rw [List.getD_eq_getElem?_getD, e]; rfl
  refine S.put (S.ext.write fp h0) S.fl rfl (fun _ _ => rfl) (fun _ => by rw [hget]; exact ⟨rfl, h0, fp, vs, upd_same, r⟩) (by simp [Sl.ads]) (fun j s' hj h q hq => ?_) fun j s' hj h => (S.ok j s' h).updNe (S.ne i j _ s' (Ne.symm hj) hs h p (by simp [Sl.ads]))
  simp [Sl.ads] at hq; subst hq
  exact S.ne i j _ s' (Ne.symm hj) hs h q (by simp [Sl.ads])
/-- a list of ours is frozen -/
theorem Sat.freeze (S : Sat K G H₀ L F H σ ss) {i : Nat} {p : Addr} {xs : List D} (hs : ss[i]? = some (.o p xs)) : ∃ F', Sat K G H₀ L F' H σ (ss.set i (.d (.lst xs))) := by
  obtain ⟨e, h0, fp, vs, hp, r⟩ := S.getO hs
  have hget : σ.getD i none = some (.ref p) := by rw [List.getD_eq_getElem?_getD, e]; rfl
  exact ⟨upd F p (.lst vs), S.put (S.ext.freeze fp h0 hp) (S.fl.trans (Same.upd fp)) rfl (fun _ _ => rfl) (fun _ => by rw [hget]; exact ⟨_, rfl, Rep.lst (SqL.of upd_same) (r.mono (Same.upd fp))⟩) (by simp [Sl.ads]) (fun _ _ _ _ q hq => by simp [Sl.ads] at hq)
    fun j s' hj h => (S.ok j s' h).frz fp (S.ne i j _ s' (Ne.symm hj) hs h p (by simp [Sl.ads]))⟩
end

/-! ### the judgements: what an expression comes to -/
section
variable (K : PySem.W.Frag) (G H₀ L : Hp) (ss : List Sl)
/-- frozen -/
def Ev (t : TE) (d : D) : Prop := ∀ F H σ Q, Sat K G H₀ L F H σ ss → (∀ v F' H', Ext F H F' H' → Rep K F' d v → Q v H') → t σ H Q
/-- a new list, its things frozen -/
def EvO (t : TE) (ds : List D) : Prop := ∀ F H σ Q, Sat K G H₀ L F H σ ss → (∀ p vs F' H', Ext F H F' H' → H p = none → F' p = none → H' p = some (.lst vs) → Reps K F' ds vs → Q (.ref p) H') → t σ H Q
/-- some list, its things frozen -/
def EvL (t : TE) (ds : List D) : Prop := ∀ F H σ Q, Sat K G H₀ L F H σ ss → (∀ p vs F' H', Ext F H F' H' → SqL K H' p vs → Reps K F' ds vs → Q (.ref p) H') → t σ H Q
/-- as it is now -/
def EvB (t : TE) (d : D) : Prop := ∀ F H σ Q, Sat K G H₀ L F H σ ss → (∀ v F' H', Ext F H F' H' → Rep K H' d v → Q v H') → t σ H Q
def EvT (t : TT) (b : Bool) : Prop := ∀ F H σ (Q : Bool → Hp → Prop), Sat K G H₀ L F H σ ss → (∀ F' H', Ext F H F' H' → Q b H') → t σ H Q
/-- an argument list: as it is now; frozen -/
def EvA (t : TA) (ds : List D) : Prop := ∀ F H σ (Q : List V → Hp → Prop), Sat K G H₀ L F H σ ss → (∀ vs F' H', Ext F H F' H' → Reps K H' ds vs → Q vs H') → t σ H Q
def EvAF (t : TA) (ds : List D) : Prop := ∀ F H σ (Q : List V → Hp → Prop), Sat K G H₀ L F H σ ss → (∀ vs F' H', Ext F H F' H' → Reps K F' ds vs → Q vs H') → t σ H Q
end
section
variable {K : PySem.W.Frag} {G H₀ L : Hp} {ss : List Sl} {t ta tb : TE} {d d1 d2 : D} {ds es : List D}
theorem EvO.ev (h : EvO K G H₀ L ss t ds) : Ev K G H₀ L ss t (.lst ds) := fun F H σ Q S q => h F H σ Q S fun p vs F' H' e hp fp hp' r => q _ _ _ (e.freeze fp hp hp') (Rep.lst (SqL.of upd_same) (r.mono (Same.upd fp)))
theorem EvO.l (h : EvO K G H₀ L ss t ds) : EvL K G H₀ L ss t ds := fun F H σ Q S q => h F H σ Q S fun p vs F' H' e hp fp hp' r => q _ _ _ _ e (SqL.of hp') r
theorem Ev.l (h : Ev K G H₀ L ss t (.lst ds)) : EvL K G H₀ L ss t ds := fun F H σ Q S q => h F H σ Q S fun v F' H' e r => by
  obtain ⟨p, xs, rfl, sq, rs⟩ := r.of_lst
  exact q _ _ _ _ e (SqL.same e.fh sq) rs
theorem Ev.b (h : Ev K G H₀ L ss t d) : EvB K G H₀ L ss t d := fun F H σ Q S q => h F H σ Q S fun v F' H' e r => q _ _ _ e (r.mono e.fh)
theorem EvL.b (h : EvL K G H₀ L ss t ds) : EvB K G H₀ L ss t (.lst ds) := fun F H σ Q S q => h F H σ Q S fun p vs F' H' e sq r => q _ _ _ e (Rep.lst sq (r.mono e.fh))
theorem ev_var {i : Nat} (hs : ss[i]? = some (.d d)) : Ev K G H₀ L ss (tVar i) d := fun F H σ Q S q => by
  obtain ⟨v, e, r⟩ := S.getD hs
  exact ⟨v, e, q _ _ _ (Ext.refl S.ext.fh) r⟩
theorem evl_own {i : Nat} {p : Addr} (hs : ss[i]? = some (.o p ds)) : EvL K G H₀ L ss (tVar i) ds := fun F H σ Q S q => by
  obtain ⟨e, h0, fp, vs, hp, r⟩ := S.getO hs
  exact ⟨.ref p, e, q _ _ _ _ (Ext.refl S.ext.fh) (SqL.of hp) r⟩
theorem ev_int {i : Int} : Ev K G H₀ L ss (tC (.int i)) (.int i) := fun F H σ Q S q => q _ _ _ (Ext.refl S.ext.fh) Rep.int
theorem ev_bl {b : Bool} : Ev K G H₀ L ss (tC (.bl b)) (.bl b) := fun F H σ Q S q => q _ _ _ (Ext.refl S.ext.fh) Rep.bl
theorem ev_str {x : Str} {l : List Nat} (h : x = T l) (ha : ∀ c ∈ l, c < 128) : Ev K G H₀ L ss (tC (.str x)) (.str l) := fun F H σ Q S q => by subst h; exact q _ _ _ (Ext.refl S.ext.fh) (Rep.str ha)
/-- two things that are read, and a thing that needs no heap -/
theorem ev_op2 {r : R2} {w : V} (a : EvB K G H₀ L ss ta d1) (b : EvB K G H₀ L ss tb d2) (hr : ∀ H x y (Q : VK), Rep K H d1 x → Rep K H d2 y → Q w H → r x y H Q) (hw : ∀ F H x y, Rep K H d1 x → Rep K H d2 y → Rep K F d w) : Ev K G H₀ L ss (tOp r ta tb) d := fun F H σ Q S q =>
  a F H σ _ S fun x F1 H1 e1 r1 => b F1 H1 σ _ (S.ext2 e1) fun y F2 H2 e2 r2 => hr H2 x y Q (r1.mono e2.hh) r2 (q _ _ _ (e1.trans e2) (hw _ _ _ _ (r1.mono e2.hh) r2))
theorem ev_add {i j : Int} (a : EvB K G H₀ L ss ta (.int i)) (b : EvB K G H₀ L ss tb (.int j)) : Ev K G H₀ L ss (tOp (rI0 fun i j => .int (i + j)) ta tb) (.int (i + j)) :=
  ev_op2 a b (fun H x y Q r1 r2 q => ⟨i, j, r1.of_int, r2.of_int, q⟩) fun _ _ _ _ _ _ => Rep.int
theorem ev_opI {C : Int → Int → Prop} {g : Int → Int → Int} {i j : Int} (a : EvB K G H₀ L ss ta (.int i)) (b : EvB K G H₀ L ss tb (.int j)) (hC : C i j) : Ev K G H₀ L ss (tOp (rI C fun i j => .int (g i j)) ta tb) (.int (g i j)) :=
  ev_op2 a b (fun H x y Q r1 r2 q => ⟨i, j, r1.of_int, r2.of_int, hC, q⟩) fun _ _ _ _ _ _ => Rep.int
theorem ev_cmpI {g : Int → Int → Bool} {i j : Int} (a : EvB K G H₀ L ss ta (.int i)) (b : EvB K G H₀ L ss tb (.int j)) : Ev K G H₀ L ss (tOp (rI0 fun i j => .bl (g i j)) ta tb) (.bl (g i j)) :=
  ev_op2 a b (fun H x y Q r1 r2 q => ⟨i, j, r1.of_int, r2.of_int, q⟩) fun _ _ _ _ _ _ => Rep.bl
theorem ev_eqI {i j : Int} (a : EvB K G H₀ L ss ta (.int i)) (b : EvB K G H₀ L ss tb (.int j)) : Ev K G H₀ L ss (tOp rEq ta tb) (.bl (decide (i = j))) :=
  ev_op2 (w := .bl (decide (i = j))) a b (fun H x y Q r1 r2 q => by rw [r1.of_int, r2.of_int]; exact ⟨rfl, by simpa using q⟩) fun _ _ _ _ _ _ => Rep.bl
theorem ev_neI {i j : Int} (a : EvB K G H₀ L ss ta (.int i)) (b : EvB K G H₀ L ss tb (.int j)) : Ev K G H₀ L ss (tOp rNe ta tb) (.bl (!decide (i = j))) :=
  ev_op2 (w := .bl (!decide (i = j))) a b (fun H x y Q r1 r2 q => by rw [r1.of_int, r2.of_int]; exact ⟨rfl, by simpa using q⟩) fun _ _ _ _ _ _ => Rep.bl
theorem ev_eqS {l m : List Nat} (a : EvB K G H₀ L ss ta (.str l)) (b : EvB K G H₀ L ss tb (.str m)) : Ev K G H₀ L ss (tOp rEq ta tb) (.bl (decide (l = m))) :=
  ev_op2 (w := .bl (decide (l = m))) a b (fun H x y Q r1 r2 q => by rw [r1.of_str, r2.of_str]; exact ⟨rfl, by rw [T_decide]; exact q⟩) fun _ _ _ _ _ _ => Rep.bl
theorem ev_neS {l m : List Nat} (a : EvB K G H₀ L ss ta (.str l)) (b : EvB K G H₀ L ss tb (.str m)) : Ev K G H₀ L ss (tOp rNe ta tb) (.bl (!decide (l = m))) :=
  ev_op2 (w := .bl (!decide (l = m))) a b (fun H x y Q r1 r2 q => by rw [r1.of_str, r2.of_str]; exact ⟨rfl, by rw [T_decide]; exact q⟩) fun _ _ _ _ _ _ => Rep.bl
theorem ev_catS {l m : List Nat} (a : EvB K G H₀ L ss ta (.str l)) (b : EvB K G H₀ L ss tb (.str m)) (hz : l.length + m.length ≤ sizeLine) :
    Ev K G H₀ L ss (tOp (fun x y H Q => ∃ i j, x = .str i ∧ y = .str j ∧ i.length + j.length ≤ sizeLine ∧ Q (.str (i ++ j)) H) ta tb) (.str (l ++ m)) :=
  ev_op2 (w := .str (T (l ++ m))) a b (fun H x y Q r1 r2 q => ⟨_, _, r1.of_str, r2.of_str, by rw [T_len, T_len]; exact hz, by rw [T_app]; exact q⟩) fun _ _ _ _ r1 r2 => Rep.str fun c hc => (List.mem_append.mp hc).elim (r1.asc c) (r2.asc c)
theorem atI_mem {α : Type} {xs : List α} {i : Int} {x : α} (h : atI xs i = some x) : x ∈ xs := by
  unfold atI at h
  cases hx : ixN xs.length i with
  | none => rw [hx] at h; cases h
  | some j => rw [hx] at h; exact List.mem_of_getElem? h
theorem ev_ixS {l : List Nat} {i : Int} {c : Nat} (a : EvB K G H₀ L ss ta (.str l)) (b : EvB K G H₀ L ss tb (.int i)) (hz : l.length ≤ sizeLine) (hc : atI l i = some c) : Ev K G H₀ L ss (tOp rIxS ta tb) (.str [c]) :=
  ev_op2 (w := .str (T [c])) a b (fun H x y Q r1 r2 q => ⟨_, _, c, r1.of_str, r2.of_int, by rw [T_len]; exact hz, by rw [T_cps]; exact hc, q⟩) fun _ _ _ _ r1 r2 => Rep.str fun c' hc' => by
    rw [List.mem_singleton.mp hc']
    exact r1.asc c (atI_mem hc)
theorem Reps.atI {H : Hp} {ds : List D} {vs : List V} {i : Int} {d : D} (r : Reps K H ds vs) (h : L2.atI ds i = some d) : ∃ v, L2.atI vs i = some v ∧ Rep K H d v := by
  unfold L2.atI at h ⊢
  rw [r.length] at h
  cases hx : ixN vs.length i with
  | none => rw [hx] at h; cases h
  | some j => rw [hx] at h; exact r.get' h
theorem ev_ixL {i : Int} (a : EvL K G H₀ L ss ta ds) (b : EvB K G H₀ L ss tb (.int i)) (hc : atI ds i = some d) : Ev K G H₀ L ss (tOp (rIxL K) ta tb) d := fun F H σ Q S q =>
  a F H σ _ S fun p vs F1 H1 e1 sq r1 => b F1 H1 σ _ (S.ext2 e1) fun y F2 H2 e2 r2 => by
    obtain ⟨v, hv, rv⟩ := r1.atI hc
    exact ⟨p, vs, i, v, rfl, r2.of_int, SqL.same e2.hh sq, hv, q _ _ _ (e1.trans e2) (rv.mono e2.gf)⟩
theorem eva_nil : EvA K G H₀ L ss tNil [] := fun F H σ Q S q => q _ _ _ (Ext.refl S.ext.fh) Reps.nil
theorem eva_cons {t : TA} (a : EvB K G H₀ L ss ta d) (b : EvA K G H₀ L ss t ds) : EvA K G H₀ L ss (tCons ta t) (d :: ds) := fun F H σ Q S q =>
  a F H σ _ S fun x F1 H1 e1 r1 => b F1 H1 σ _ (S.ext2 e1) fun vs F2 H2 e2 r2 => q _ _ _ (e1.trans e2) (Reps.cons (r1.mono e2.hh) r2)
theorem evaf_nil : EvAF K G H₀ L ss tNil [] := fun F H σ Q S q => q _ _ _ (Ext.refl S.ext.fh) Reps.nil
theorem evaf_cons {t : TA} (a : Ev K G H₀ L ss ta d) (b : EvAF K G H₀ L ss t ds) : EvAF K G H₀ L ss (tCons ta t) (d :: ds) := fun F H σ Q S q =>
  a F H σ _ S fun x F1 H1 e1 r1 => b F1 H1 σ _ (S.ext2 e1) fun vs F2 H2 e2 r2 => q _ _ _ (e1.trans e2) (Reps.cons (r1.mono e2.gf) r2)
theorem ev_tup {t : TA} (a : EvAF K G H₀ L ss t ds) (hz : ds.length ≤ sizeLine) : Ev K G H₀ L ss (tTup t) (.tup ds) := fun F H σ Q S q =>
  a F H σ _ S fun vs F1 H1 e1 r1 => ⟨by rw [← r1.length]; exact hz, fun p hp => q _ _ _ (e1.newF hp) (Rep.tup (SqT.of upd_same) (r1.mono (Same.upd (e1.fh.free hp))))⟩
theorem evo_lst {t : TA} (a : EvAF K G H₀ L ss t ds) (hz : ds.length ≤ sizeLine) : EvO K G H₀ L ss (tLst t) ds := fun F H σ Q S q =>
  a F H σ _ S fun vs F1 H1 e1 r1 => ⟨by rw [← r1.length]; exact hz, fun p hp => q p vs F1 _ (e1.newO hp) (e1.hh.free hp) (e1.fh.free hp) upd_same r1⟩
/-! tests -/
theorem evt_test {b : Bool} (a : Ev K G H₀ L ss t (.bl b)) : EvT K G H₀ L ss (tTest t) b := fun F H σ Q S q => a F H σ _ S fun v F' H' e r => ⟨b, r.of_bl, q _ _ e⟩
theorem evt_b {b : Bool} (a : Ev K G H₀ L ss t (.bl b)) : EvT K G H₀ L ss (tB t) b := fun F H σ Q S q => a F H σ _ S fun v F' H' e r => ⟨b, r.of_bl, q _ _ e⟩
theorem evt_not {u : TT} {b : Bool} (a : EvT K G H₀ L ss u b) : EvT K G H₀ L ss (tNot u) (!b) := fun F H σ Q S q => a F H σ _ S fun F' H' e => q _ _ e
theorem evt_and {u v : TT} {b c : Bool} (a : EvT K G H₀ L ss u b) (h : b = true → EvT K G H₀ L ss v c) : EvT K G H₀ L ss (tAnd u v) (b && c) := fun F H σ Q S q => a F H σ _ S fun F' H' e => by
  cases b with
  | false => exact iteF (q _ _ e)
  | true => exact iteT (h rfl _ _ _ _ (S.ext2 e) fun F'' H'' e' => q _ _ (e.trans e'))
theorem evt_or {u v : TT} {b c : Bool} (a : EvT K G H₀ L ss u b) (h : b = false → EvT K G H₀ L ss v c) : EvT K G H₀ L ss (tOr u v) (b || c) := fun F H σ Q S q => a F H σ _ S fun F' H' e => by
  cases b with
  | true => exact iteT (q _ _ e)
  | false => exact iteF (h rfl _ _ _ _ (S.ext2 e) fun F'' H'' e' => q _ _ (e.trans e'))
theorem ev_and {b c : Bool} (a : Ev K G H₀ L ss ta (.bl b)) (h : b = true → Ev K G H₀ L ss tb (.bl c)) : Ev K G H₀ L ss (tAndV ta tb) (.bl (b && c)) := fun F H σ Q S q => a F H σ _ S fun v F' H' e r => by
  refine ⟨b, r.of_bl, ?_⟩
  cases b with
  | false => exact iteF (q _ _ _ e Rep.bl)
  | true => exact iteT (h rfl _ _ _ _ (S.ext2 e) fun v F'' H'' e' r' => q _ _ _ (e.trans e') r')
end
end L2

set_option Elab.async false
set_option linter.all false
set_option maxRecDepth 100000
set_option maxHeartbeats 4000000
namespace L2
open PySem PySem.Spec PyProof.Rows
/-! ### defs by their promises -/
/-- a promise: a frozen thing is told -/
def SpD (K : PySem.W.Frag) (pre : List D → Prop) (res : List D → D) : Sp := fun vs H Q _ => ∃ G ds, Same G H ∧ Reps K G ds vs ∧ pre ds ∧ ∀ v G' H', Ext G H G' H' → Rep K G' (res ds) v → Q v H'
/-- a promise: a new list is told -/
def SpO (K : PySem.W.Frag) (pre : List D → Prop) (res : List D → List D) : Sp := fun vs H Q _ => ∃ G ds, Same G H ∧ Reps K G ds vs ∧ pre ds ∧ ∀ p ws G' H', Ext G H G' H' → H p = none → G' p = none → H' p = some (.lst ws) → Reps K G' (res ds) ws → Q (.ref p) H'
def D.flat : D → Bool
  | .lst _ => false | .tup _ => false | _ => true
theorem Rep.flat {K : PySem.W.Frag} {H H' : Hp} {d : D} {v : V} (f : d.flat = true) (r : Rep K H d v) : Rep K H' d v := by
  cases d with
  | lst _ => cases f
  | tup _ => cases f
  | non => rw [r.of_non]; exact Rep.non
  | bl b => rw [r.of_bl]; exact Rep.bl
  | int i => rw [r.of_int]; exact Rep.int
  | str l => rw [r.of_str]; exact Rep.str r.asc
section
variable {K : PySem.W.Frag} {G H₀ L : Hp} {ss : List Sl} {t : TA} {ds : List D} {pre : List D → Prop} {E : XK}
theorem ev_call {res : List D → D} (a : EvAF K G H₀ L ss t ds) (hp : pre ds) : Ev K G H₀ L ss (tCall (SpD K pre res) [] E t) (res ds) := fun F H σ Q S q =>
  a F H σ _ S fun vs F1 H1 e1 r1 => ⟨F1, ds, e1.fh, by rw [List.append_nil]; exact r1, hp, fun v G' H' e2 r => q _ _ _ (e1.trans e2) r⟩
theorem evo_call {res : List D → List D} (a : EvAF K G H₀ L ss t ds) (hp : pre ds) : EvO K G H₀ L ss (tCall (SpO K pre res) [] E t) (res ds) := fun F H σ Q S q =>
  a F H σ _ S fun vs F1 H1 e1 r1 => ⟨F1, ds, e1.fh, by rw [List.append_nil]; exact r1, hp, fun p ws G' H' e2 h1 h2 h3 r => q _ _ _ _ (e1.trans e2) (e1.hh.free h1) h2 h3 r⟩
end

/-! ### statements -/
section
variable (K : PySem.W.Frag) (G H₀ L : Hp)
def Nx (P : St → Hp → Prop) (ss : List Sl) : Prop := ∀ F H σ, Sat K G H₀ L F H σ ss → P σ H
def Go (E : Ends) (ss : List Sl) (t : TS) : Prop := ∀ F H σ, Sat K G H₀ L F H σ ss → t E σ H
def Tg (g : TG) (d : D) (ss ss' : List Sl) : Prop := ∀ F H σ v (Q : St → Hp → Prop), Sat K G H₀ L F H σ ss → Rep K F d v → (∀ σ' , Sat K G H₀ L F H σ' ss' → Q σ' H) → g v σ H Q
/-- some state that the word holds of -/
def At (I : List Sl → Prop) : St → Hp → Prop := fun σ H => ∃ ss F, Sat K G H₀ L F H σ ss ∧ I ss
end
/-- what is wanted of the answer -/
def RtD (K : PySem.W.Frag) (G H₀ : Hp) (rt : VK) (d : D) : Prop := ∀ v F H, Ext G H₀ F H → Rep K F d v → rt v H
def RtO (K : PySem.W.Frag) (G H₀ : Hp) (rt : VK) (ds : List D) : Prop := ∀ p vs F H, Ext G H₀ F H → H₀ p = none → F p = none → H p = some (.lst vs) → Reps K F ds vs → rt (.ref p) H
section
variable {K : PySem.W.Frag} {G H₀ L : Hp} {ss ss' : List Sl} {E : Ends} {t u : TS} {te : TE} {d : D} {ds : List D} {P : St → Hp → Prop}
theorem go_seq (h : Go K G H₀ L { E with nx := u E } ss t) : Go K G H₀ L E ss (tSeq t u) := h
theorem go_set {i : Nat} (a : Ev K G H₀ L ss te d) (h : Nx K G H₀ L E.nx (ss.set i (.d d))) : Go K G H₀ L E ss (tAsg te (gName i)) := fun F H σ S => a F H σ _ S fun v F' H' e r => h F' H' _ ((S.ext2 e).setD r)
theorem Sat.notin {F H : Hp} {σ : St} {p : Addr} (S : Sat K G H₀ L F H σ ss) (hp : H p = none) (j : Nat) (s : Sl) (h : ss[j]? = some s) : p ∉ s.ads := fun z => (S.ok j s h).live z hp
theorem Sat.newO {F H F' H' : Hp} {σ : St} {p : Addr} {vs : List V} {i : Nat} (S : Sat K G H₀ L F H σ ss) (e : Ext F H F' H') (hp : H p = none) (fp : F' p = none) (hp' : H' p = some (.lst vs)) (r : Reps K F' ds vs) : Sat K G H₀ L F' H' (σ.set i (some (.ref p))) (ss.set i (.o p ds)) :=
  (S.ext2 e).setO ⟨S.ext.hh.free hp, fp, vs, hp', r⟩ fun j s _ h => S.notin hp j s h
theorem go_setO {i : Nat} (a : EvO K G H₀ L ss te ds) (h : ∀ p, Nx K G H₀ L E.nx (ss.set i (.o p ds))) : Go K G H₀ L E ss (tAsg te (gName i)) := fun F H σ S => a F H σ _ S fun p vs F' H' e hp fp hp' r => h p F' H' _ (S.newO e hp fp hp' r)
theorem go_if {c : TT} {b : Bool} (a : EvT K G H₀ L ss c b) (h1 : b = true → Go K G H₀ L E ss t) (h2 : b = false → Go K G H₀ L E ss u) : Go K G H₀ L E ss (tIfS c t u) := fun F H σ S => a F H σ _ S fun F' H' e => by
  cases b with
  | true => exact iteT (h1 rfl F' H' σ (S.ext2 e))
  | false => exact iteF (h2 rfl F' H' σ (S.ext2 e))
theorem go_next (h : Nx K G H₀ L E.nx ss) : Go K G H₀ L E ss tNext := h
theorem go_ret (a : Ev K G H₀ L ss te d) (h : RtD K G H₀ E.rt d) : Go K G H₀ L E ss (tRet te) := fun F H σ S => a F H σ _ S fun v F' H' e r => h v F' H' (S.ext.trans e) r
theorem go_retO (a : EvO K G H₀ L ss te ds) (h : RtO K G H₀ E.rt ds) : Go K G H₀ L E ss (tRet te) := fun F H σ S => a F H σ _ S fun p vs F' H' e hp fp hp' r => h p vs F' H' (S.ext.trans e) (S.ext.hh.free hp) fp hp' r
theorem nx_freeze {i : Nat} {p : Addr} (hs : ss[i]? = some (.o p ds)) (h : Nx K G H₀ L P (ss.set i (.d (.lst ds)))) : Nx K G H₀ L P ss := fun F H σ S => by
  obtain ⟨F', S'⟩ := S.freeze hs
  exact h F' H σ S'
theorem nx_go (h : Go K G H₀ L E ss t) : Nx K G H₀ L (t E) ss := h
theorem nx_at {I : List Sl → Prop} (h : I ss) : Nx K G H₀ L (At K G H₀ L I) ss := fun F H σ S => ⟨ss, F, S, h⟩
/-- what holds where ways meet -/
theorem go_join (I : List Sl → Prop) (h1 : ∀ N : St → Hp → Prop, (∀ ss, I ss → Nx K G H₀ L N ss) → Go K G H₀ L { E with nx := N } ss t) (h2 : ∀ ss, I ss → Go K G H₀ L E ss u) : Go K G H₀ L E ss (tSeq t u) := h1 _ h2
/-! targets -/
theorem tg_name {i : Nat} : Tg K G H₀ L (gName i) d ss (ss.set i (.d d)) := fun F H σ v Q S r q => q _ (S.setD r)
/-! lists of ours are changed -/
theorem go_append {i : Nat} {p : Addr} {t1 : TE} (hs : ss[i]? = some (.o p ds)) (a : Ev K G H₀ L ss t1 d) (hz : ds.length < sizeLine) (h : Nx K G H₀ L E.nx (ss.set i (.o p (ds ++ [d])))) :
    Go K G H₀ L E ss (tDrop (tBM K "list" rAppend (tVar i) (tCons t1 tNil))) := fun F H σ S => by
  obtain ⟨e, h0, fp, vs, hp, r⟩ := S.getO hs
  refine ⟨.ref p, e, .inl ⟨rfl, _, SqL.of hp⟩, a F H σ _ S fun v F' H' e' r' => ?_⟩
  have S' := S.ext2 e'
  obtain ⟨e2, h02, fp2, vs', hp2, r2⟩ := S'.getO hs
  exact ⟨p, vs', v, rfl, rfl, hp2, by rw [← r2.length]; exact hz, h F' _ σ (S'.write hs (r2.snoc r'))⟩
/-! loops -/
/-- over range(n) -/
theorem go_range {ta : TA} {j : Nat} {tb : TS} {n : Int} (I : Nat → List Sl → Prop) (a : EvA K G H₀ L ss ta [.int n]) (hb : -(2 ^ 62) ≤ n ∧ n < 2 ^ 62) (h0 : I 0 ss)
    (hs : ∀ (k : Nat) ss, (k : Int) < n → I k ss → ∀ N, (∀ ss, I (k + 1) ss → Nx K G H₀ L N ss) → Go K G H₀ L { E with nx := N, ct := N, bk := E.nx } (ss.set j (.d (.int (k : Int)))) tb)
    (hd : ∀ ss, I n.toNat ss → Nx K G H₀ L E.nx ss) {ti : TI} (hti : ∀ σ H R, (ta σ H fun vs H1 => ∃ m : Int, vs = [.int m] ∧ -(2 ^ 62) ≤ m ∧ m < 2 ^ 62 ∧ R (Itr 0 m.toNat) H1) → ti σ H R) : Go K G H₀ L E ss (tFor ti (gName j) tb) := fun F H σ S => by
  refine hti σ H _ (a F H σ _ S fun vs F1 H1 e1 r1 => ?_)
  rw [Reps] at r1
  obtain ⟨x, r, rfl, rx, r1⟩ := r1
  rw [Reps] at r1
  subst r1
  rw [rx.of_int]
  refine ⟨n, rfl, hb.1, hb.2, fun i m σ' H' => m = n.toNat - i ∧ i ≤ n.toNat ∧ At K G H₀ L (I i) σ' H', ⟨_, rfl, Nat.zero_le _, ss, F1, S.ext2 e1, h0⟩, ?_⟩
  rintro i m σ' H' ⟨rfl, hi, ss1, F2, S2, h2⟩
  by_cases hlt : i < n.toNat
  · refine .inr ⟨hlt, fun σ'' H'' => At K G H₀ L (I (i + 1)) σ'' H'', fun σ'' H'' h => ⟨n.toNat - (i + 1), by omega, rfl, hlt, h⟩, fun x H'' y => ?_⟩
    obtain ⟨rfl, rfl⟩ := y
    refine hs i ss1 (by omega) h2 _ (fun ss h => nx_at h) F2 _ _ ?_
    have e : (0 : Int) + (i : Int) = (i : Int) := by omega
    rw [e]
    exact S2.setD Rep.int
  · have e : i = n.toNat := by omega
    subst e
    exact .inl ⟨Nat.le_refl _, hd ss1 h2 F2 H' σ' S2⟩
end
end L2

set_option Elab.async false
set_option linter.all false
set_option maxRecDepth 100000
set_option maxHeartbeats 4000000
/-! whole data compared -/
namespace L2
open PySem PySem.Spec PyProof.Rows
mutual
def D.toP : D → PyData
  | .non => .none
  | .bl b => .bool b
  | .int i => .int i
  | .str l => .str (T l)
  | .lst a => .list (D.toPs a)
  | .tup a => .tuple (D.toPs a)
def D.toPs : List D → List PyData
  | [] => []
  | a :: x => a.toP :: D.toPs x
end
mutual
theorem D.toP_depth : ∀ d : D, d.toP.depth = d.dep
  | .non => rfl
  | .bl _ => rfl
  | .int _ => rfl
  | .str _ => rfl
  | .lst a => by simp [D.toP, PyData.depth, D.dep, D.toPs_depth a]
  | .tup a => by simp [D.toP, PyData.depth, D.dep, D.toPs_depth a]
theorem D.toPs_depth : ∀ a : List D, PyData.depthAll (D.toPs a) = D.deps a
  | [] => rfl
  | d :: a => by simp [D.toPs, PyData.depthAll, D.deps, D.toP_depth d, D.toPs_depth a]
end
mutual
theorem D.eqv : ∀ d e : D, d.nb = true → e.nb = true → PyData.eqv d.toP e.toP = decide (d = e)
  | .non, e, _, h2 => by cases e <;> simp [D.toP, PyData.eqv, D.nb] at h2 ⊢
  | .bl _, _, h1, _ => by simp [D.nb] at h1
  | .int i, e, _, h2 => by
    cases e <;> simp [D.toP, PyData.eqv, D.nb] at h2 ⊢
    exact Bool.beq_eq_decide_eq _ _
  | .str l, e, _, h2 => by
    cases e <;> simp [D.toP, PyData.eqv, D.nb] at h2 ⊢
    rename_i m
    rw [Bool.eq_iff_iff]; simp [T_inj]
  | .lst a, e, h1, h2 => by
    cases e with
    | lst b =>
      simp only [D.nb] at h1 h2
      simp only [D.toP, PyData.eqv, D.lst.injEq]
      exact D.eqvs a b h1 h2
    | _ => simp [D.toP, PyData.eqv, D.nb] at h2 ⊢
  | .tup a, e, h1, h2 => by
    cases e with
    | tup b =>
      simp only [D.nb] at h1 h2
      simp only [D.toP, PyData.eqv, D.tup.injEq]
      exact D.eqvs a b h1 h2
    | _ => simp [D.toP, PyData.eqv, D.nb] at h2 ⊢
theorem D.eqvs : ∀ a b : List D, D.nbs a = true → D.nbs b = true → PyData.eqvAll (D.toPs a) (D.toPs b) = decide (a = b)
  | [], b, _, _ => by cases b <;> simp [D.toPs, PyData.eqvAll]
  | d :: a, b, h1, h2 => by
    cases b with
    | nil => simp [D.toPs, PyData.eqvAll]
    | cons e b =>
      simp only [D.nbs, Bool.and_eq_true] at h1 h2
      simp only [D.toPs, PyData.eqvAll, D.eqv d e h1.1 h2.1, D.eqvs a b h1.2 h2.2, List.cons.injEq]
      by_cases x : d = e <;> by_cases y : a = b <;> simp [x, y]
end
section
variable {X : Cx} {pins : List (Addr × Obj)} {σ : St} {H : Hp} {s : Shared}
theorem strOk_T {l : List Nat} (h : ∀ c ∈ l, c < 128) : PyData.strOk (T l) = true := by
  unfold PyData.strOk T
  simp
  intro c hc
  have := h c hc
  omega
mutual
theorem Inv.reads (I : Inv X pins σ H s) : ∀ {d : D} {v : V} {u : Value}, Rep X.K H d v → RelV v u → (∃ as, Reads s.heap u d.toP as) ∧ d.toP.canLay0 = true
  | .non, _, _, r, q => by rw [r.of_non] at q; cases q; exact ⟨⟨_, Reads.none⟩, rfl⟩
  | .bl b, _, _, r, q => by rw [r.of_bl] at q; cases q; exact ⟨⟨_, Reads.bool b⟩, rfl⟩
  | .int i, _, _, r, q => by rw [r.of_int] at q; obtain ⟨t, rfl⟩ := q; exact ⟨⟨_, Reads.int i t⟩, rfl⟩
  | .str l, _, _, r, q => by
    have ha := r.asc
    rw [r.of_str] at q; obtain ⟨t, rfl⟩ := q
    exact ⟨⟨_, Reads.str _ t⟩, strOk_T ha⟩
  | .lst ds, _, _, r, q => by
    obtain ⟨p, xs, rfl, sq, rs⟩ := r.of_lst
    cases q
    obtain ⟨its, rv, ⟨o, n, e, c, _, hd⟩, _⟩ := I.list sq
    obtain ⟨⟨as, ra⟩, hc⟩ := I.readsAll rs rv
    exact ⟨⟨_, Reads.list e c hd (by simpa using ra)⟩, by simpa [D.toP, PyData.canLay0] using hc⟩
  | .tup ds, _, _, r, q => by
    obtain ⟨p, xs, rfl, sq, rs⟩ := r.of_tup
    cases q
    obtain ⟨its, rv, ⟨o, e, c, n, hd⟩, _⟩ := I.tuple sq
    obtain ⟨⟨as, ra⟩, hc⟩ := I.readsAll rs rv
    exact ⟨⟨_, Reads.tuple e c hd (by simpa using ra)⟩, by simpa [D.toP, PyData.canLay0] using hc⟩
theorem Inv.readsAll (I : Inv X pins σ H s) : ∀ {ds : List D} {vs : List V} {us : List Value}, Reps X.K H ds vs → Vals vs us → (∃ as, ReadsAll s.heap us (D.toPs ds) as) ∧ PyData.canLayAll0 (D.toPs ds) = true
  | [], _, _, r, q => by
    rw [Reps] at r; subst r
    cases q
    exact ⟨⟨_, ReadsAll.nil⟩, rfl⟩
  | d :: ds, _, _, r, q => by
    rw [Reps] at r
    obtain ⟨x, xs, rfl, r1, r2⟩ := r
    cases q with
    | cons q1 q2 =>
      obtain ⟨⟨as, a⟩, hc⟩ := I.reads r1 q1
      obtain ⟨⟨bs, b⟩, hc2⟩ := I.readsAll r2 q2
      exact ⟨⟨_, ReadsAll.cons a b⟩, by simp [D.toPs, PyData.canLayAll0, hc, hc2]⟩
end
end
/-- a == b, a != b of whole data without truths -/
def rEqD (K : PySem.W.Frag) : R2 := fun x y H Q => ∃ d e, Rep K H d x ∧ Rep K H e y ∧ d.nb = true ∧ e.nb = true ∧ d.dep ≤ 60 ∧ Q (.bl (decide (d = e))) H
section
variable {X : Cx}
theorem op_eqD (hu : X.A.units + 64 < cLine) : OpR X (compareOp .Eq) (rEqD X.K) := by
  intro pins s σ H x y v u Q I rx ry h
  obtain ⟨d, e, r1, r2, n1, n2, hd, q⟩ := h
  obtain ⟨⟨as, a⟩, c1⟩ := I.reads r1 rx
  obtain ⟨⟨bs, b⟩, c2⟩ := I.reads r2 ry
  have h1 := D.toP_depth d
  refine SeqAt.compareEq_reads a b c1 c2 (by omega) ?_
  rw [D.eqv d e n1 n2]
  exact ⟨.bl _, H, I, rfl, q⟩
theorem any_toPs (d : D) (hd : d.nb = true) : ∀ ds : List D, D.nbs ds = true → ((D.toPs ds).any fun y => PyData.eqv y d.toP) = decide (d ∈ ds)
  | [], _ => by simp [D.toPs]
  | e :: ds, h => by
    simp only [D.nbs, Bool.and_eq_true] at h
    rw [D.toPs, List.any_cons, any_toPs d hd ds h.2, D.eqv e d h.1 hd]
    by_cases x : e = d
    · subst x; simp
    · have : ¬ d = e := fun z => x z.symm
      simp [x, this]
/-- x in a list, a tuple -/
def rInD (K : PySem.W.Frag) (neg : Bool) : R2 := fun x y H Q => ∃ d ds, Rep K H d x ∧ (Rep K H (.lst ds) y ∨ Rep K H (.tup ds) y) ∧ d.nb = true ∧ D.nbs ds = true ∧ d.dep ≤ 60 ∧ Q (.bl (if neg then !decide (d ∈ ds) else decide (d ∈ ds))) H
theorem op_inD (hu : X.A.units + 64 < cLine) : OpR X (compareOp .In) (rInD X.K false) := by
  intro pins s σ H x y v u Q I rx ry h
  obtain ⟨d, ds, r1, r2, n1, n2, hd, q⟩ := h
  obtain ⟨⟨as, a⟩, c1⟩ := I.reads r1 rx
  have h1 := D.toP_depth d
  have fin : EP X pins σ Q (.bool ((D.toPs ds).any fun y => PyData.eqv y d.toP)) s := by rw [any_toPs d n1 ds n2]; exact ⟨.bl _, H, I, rfl, q⟩
  rcases r2 with r2 | r2
  · obtain ⟨⟨bs, b⟩, c2⟩ := I.reads r2 ry
    rw [D.toP] at b c2
    exact SeqAt.in_list_reads b a (by simpa [PyData.canLay0] using c2) c1 (by omega) fin
  · obtain ⟨⟨bs, b⟩, c2⟩ := I.reads r2 ry
    rw [D.toP] at b c2
    exact SeqAt.in_tuple_reads b a (by simpa [PyData.canLay0] using c2) c1 (by omega) fin
end
section
variable {K : PySem.W.Frag} {G H₀ L : Hp} {ss : List Sl} {t ta tb : TE} {d d1 d2 : D} {ds es : List D}
theorem ev_eqD (a : EvB K G H₀ L ss ta d1) (b : EvB K G H₀ L ss tb d2) (n1 : d1.nb = true) (n2 : d2.nb = true) (hd : d1.dep ≤ 60) : Ev K G H₀ L ss (tOp (rEqD K) ta tb) (.bl (decide (d1 = d2))) :=
  ev_op2 (w := .bl (decide (d1 = d2))) a b (fun H x y Q r1 r2 q => ⟨d1, d2, r1, r2, n1, n2, hd, q⟩) fun _ _ _ _ _ _ => Rep.bl
theorem ev_inT (a : EvB K G H₀ L ss ta d) (b : EvB K G H₀ L ss tb (.tup ds)) (n1 : d.nb = true) (n2 : D.nbs ds = true) (hd : d.dep ≤ 60) : Ev K G H₀ L ss (tOp (rInD K false) ta tb) (.bl (decide (d ∈ ds))) :=
  ev_op2 (w := .bl (decide (d ∈ ds))) a b (fun H x y Q r1 r2 q => ⟨d, ds, r1, .inr r2, n1, n2, hd, q⟩) fun _ _ _ _ _ _ => Rep.bl
end
/-! data of many alike things -/
theorem D.nbs_map {α : Type} {enc : α → D} (h : ∀ x, (enc x).nb = true) : ∀ xs : List α, D.nbs (xs.map enc) = true
  | [] => rfl
  | x :: xs => by simp [D.nbs, h x, D.nbs_map h xs]
end L2

set_option Elab.async false
set_option linter.all false
set_option maxRecDepth 100000
set_option maxHeartbeats 4000000
/-! comprehensions -/
namespace L2
open PySem PySem.Spec PyProof.Rows
/-- what a source hands out: n things, y -/
def ItOk (K : PySem.W.Frag) (J : It) (F' H' : Hp) (n : Nat) (y : Nat → D) : Prop := ∀ F2 H2, Same F' F2 → Same H' H2 → Same F2 H2 →
  (∀ i, i < n → J.go i H2 ∧ ∀ x H3, J.yld i H2 x H3 → ∃ F3, Ext F2 H2 F3 H3 ∧ Rep K F3 (y i) x) ∧ J.stop n H2
def EvI (K : PySem.W.Frag) (G H₀ L : Hp) (ss : List Sl) (wi : TI) (n : Nat) (y : Nat → D) : Prop := ∀ F H σ R, Sat K G H₀ L F H σ ss → (∀ F' H' J, Ext F H F' H' → ItOk K J F' H' n y → R J H') → wi σ H R
section
variable {K : PySem.W.Frag} {G H₀ L : Hp} {ss : List Sl}
theorem evi_list {tl : TE} {ds : List D} (a : EvL K G H₀ L ss tl ds) : EvI K G H₀ L ss (iList K tl) ds.length fun i => ds.getD i .non := fun F H σ R S q =>
  a F H σ _ S fun p vs F' H' e sq r => ⟨p, rfl, ⟨vs, sq⟩, q F' H' _ e fun F2 H2 f1 h1 fh => by
    have sq2 := SqL.same h1 sq
    have hl := r.length
    refine ⟨fun i hi => ⟨⟨vs, vs[i]'(by omega), sq2, List.getElem?_eq_getElem _⟩, fun x H3 y => ?_⟩, ⟨vs, sq2, by omega⟩⟩
    obtain ⟨rfl, y⟩ := y
    obtain ⟨d, hd, rd⟩ := r.get (y vs sq2)
    refine ⟨F2, Ext.refl fh, ?_⟩
    show Rep K F2 (ds.getD i D.non) x
    rw [List.getD_eq_getElem?_getD, hd]
    exact rd.mono f1⟩
theorem evi_tup {tl : TE} {ds : List D} (a : Ev K G H₀ L ss tl (.tup ds)) : EvI K G H₀ L ss (iTup K tl) ds.length fun i => ds.getD i .non := fun F H σ R S q =>
  a F H σ _ S fun v F' H' e r => by
    obtain ⟨p, vs, rfl, sq, r⟩ := r.of_tup
    refine ⟨p, rfl, ⟨vs, SqT.same e.fh sq⟩, q F' H' _ e fun F2 H2 f1 h1 fh => ?_⟩
    have sq2 := SqT.same (f1.trans fh) sq
    have hl := r.length
    refine ⟨fun i hi => ⟨⟨vs, vs[i]'(by omega), sq2, List.getElem?_eq_getElem _⟩, fun x H3 y => ?_⟩, ⟨vs, sq2, by omega⟩⟩
    obtain ⟨rfl, y⟩ := y
    obtain ⟨d, hd, rd⟩ := r.get (y vs sq2)
    refine ⟨F2, Ext.refl fh, ?_⟩
    show Rep K F2 (ds.getD i D.non) x
    rw [List.getD_eq_getElem?_getD, hd]
    exact rd.mono f1
theorem evi_str {tl : TE} {l : List Nat} (a : EvB K G H₀ L ss tl (.str l)) : EvI K G H₀ L ss (iStr tl) l.length fun i => .str [l.getD i 0] := fun F H σ R S q =>
  a F H σ _ S fun v F' H' e r => by
    have ha := r.asc
    rw [r.of_str]
    refine ⟨T l, rfl, q F' H' _ e fun F2 H2 f1 h1 fh => ?_⟩
    have ez : (T l).cps.toList = l := T_cps l
    refine ⟨fun i hi => ⟨by show i < _; rw [ez]; exact hi, fun x H3 y => ?_⟩, by show _ ≤ _; rw [ez]; exact Nat.le_refl _⟩
    obtain ⟨rfl, c, hc, rfl⟩ := y
    rw [ez] at hc
    refine ⟨F2, Ext.refl fh, ?_⟩
    have : l.getD i 0 = c := by rw [List.getD_eq_getElem?_getD, hc]; rfl
    show Rep K F2 (D.str [l.getD i 0]) _
    rw [this]
    exact Rep.str fun c' h' => by rw [List.mem_singleton.mp h']; exact ha c (List.mem_of_getElem? hc)
/-- the slots within the block -/
def lcSl (nt : Nat) (cs : List Nat) (ss : List Sl) : List Sl := List.replicate nt .un ++ cs.map fun i => ss.getD i .un
theorem Sat.lc {F H : Hp} {σ : St} {nt : Nat} {cs : List Nat} (S : Sat K G H₀ L F H σ ss) (hc : cs.Nodup) : Sat K G H₀ L F H (lcS nt cs σ) (lcSl nt cs ss) := by
  have cut : ∀ (i : Nat) s, (lcSl nt cs ss)[i]? = some s → s = .un ∨ ∃ j, nt ≤ i ∧ cs[i - nt]? = some j ∧ ss[j]? = some s := by
    intro i s h
    unfold lcSl at h
    by_cases hi : i < nt
    · rw [List.getElem?_append_left (by simpa using hi), List.getElem?_replicate, if_pos hi] at h
      exact .inl (Option.some.inj h).symm
    · rw [List.getElem?_append_right (by simpa using hi), List.length_replicate, List.getElem?_map] at h
      cases hj : cs[i - nt]? with
      | none => rw [hj] at h; cases h
      | some j =>
        rw [hj] at h
        have h : ss.getD j .un = s := Option.some.inj h
        rw [List.getD_eq_getElem?_getD] at h
        cases hs : ss[j]? with
        | none => rw [hs] at h; exact .inl h.symm
        | some s' => rw [hs] at h; exact .inr ⟨j, by omega, rfl, by rw [hs]; exact congrArg some h⟩
  have val : ∀ (i j : Nat), nt ≤ i → cs[i - nt]? = some j → (lcS nt cs σ).getD i none = σ.getD j none := by
    intro i j hi hj
    unfold lcS
    rw [List.getD_eq_getElem?_getD, List.getElem?_append_right (by simpa using hi), List.length_replicate, List.getElem?_map, hj]
    simp [List.getD_eq_getElem?_getD]
  refine ⟨S.ext, S.fl, by unfold lcS lcSl; simp, fun i s h => ?_, fun i s h => ?_, fun i j s s' hij h h' p hp => ?_⟩
  · rcases cut i s h with rfl | ⟨j, hi, hj, hs⟩
    · trivial
    · rw [val i j hi hj]; exact S.ok j s hs
  · rcases cut i s h with rfl | ⟨j, hi, hj, hs⟩
    · simp [Sl.ads]
    · exact S.nd j s hs
  · rcases cut i s h with rfl | ⟨k, hi, hk, hs⟩
    · simp [Sl.ads] at hp
    · rcases cut j s' h' with rfl | ⟨m, hj, hm, hs'⟩
      · simp [Sl.ads]
      · have : k ≠ m := fun z => by
          subst z
          obtain ⟨l1, e1⟩ := List.getElem?_eq_some_iff.mp hk
          obtain ⟨l2, e2⟩ := List.getElem?_eq_some_iff.mp hm
          have := (List.getElem_inj hc).mp (e1.trans e2.symm)
          omega
        exact S.ne k m s s' this hs hs' p hp
/-- the target stores into the first nt slots alone -/
def GK (nt : Nat) (g : TG) : Prop := ∀ v σ H (Q Q' : St → Hp → Prop), (∀ σ' H', Q σ' H' → σ'.length = σ.length → σ'.drop nt = σ.drop nt → Q' σ' H') → g v σ H Q → g v σ H Q'
theorem gk_name {nt i : Nat} (h : i < nt) : GK nt (gName i) := fun v σ H Q Q' f q => f _ _ q (by simp) (by rw [List.drop_set_of_lt h])
theorem evo_lcI {wi : TI} {g : TG} {tt : TT} {te : TE} {nt : Nat} {cs : List Nat} {n : Nat} {y : Nat → D} (p : Nat → Bool) (f : Nat → D) (a : EvI K G H₀ L ss wi n y) (hk : GK nt g) (hc : cs.Nodup) (hz : n < sizeLine)
    (hs : ∀ i, i < n → ∃ ss', Tg K G H₀ L g (y i) (lcSl nt cs ss) ss' ∧ EvT K G H₀ L ss' tt (p i) ∧ (p i = true → Ev K G H₀ L ss' te (f i))) :
    EvO K G H₀ L ss (tLC nt cs wi g tt te) (((List.range n).filter p).map f) := fun F H σ Q S q =>
  a F H σ _ S fun F1 H1 J e1 it => by
    intro l hl
    have S1 := S.ext2 e1
    refine ⟨fun i m H2 => m = n - i ∧ i ≤ n ∧ ∃ F2 vs, Ext F1 H1 F2 H2 ∧ F2 l = none ∧ H2 l = some (.lst vs) ∧ Reps K F2 (((List.range i).filter p).map f) vs ∧ vs.length ≤ i,
      ⟨n, by omega, Nat.zero_le _, F1, [], (Ext.refl e1.fh).newO hl, e1.fh.free hl, upd_same, Reps.nil, Nat.le_refl _⟩, ?_⟩
    rintro i m H2 ⟨rfl, hi, F2, vs, e2, fl, hl2, rs, hvs⟩
    obtain ⟨it1, it2⟩ := it F2 H2 e2.gf e2.hh e2.fh
    by_cases hlt : i < n
    · obtain ⟨go, yl⟩ := it1 i hlt
      refine .inr ⟨go, fun H' => ∃ F2 vs, Ext F1 H1 F2 H' ∧ F2 l = none ∧ H' l = some (.lst vs) ∧ Reps K F2 (((List.range (i + 1)).filter p).map f) vs ∧ vs.length ≤ i + 1, fun H' h => ⟨n - (i + 1), by omega, rfl, hlt, h⟩, fun x H3 yx => ?_⟩
      obtain ⟨F3, e3, rx⟩ := yl x H3 yx
      obtain ⟨ss', tg, evt, ev⟩ := hs i hlt
      have S3 := ((S1.ext2 e2).ext2 e3).lc (nt := nt) hc
      have hl3 : H3 l = some (.lst vs) := e3.hh l _ hl2
      have fl3 : F3 l = none := (e3.no l _ hl2).trans fl
      have base := tg F3 H3 (lcS nt cs σ) x (fun σ2 H4 => H4 = H3 ∧ Sat K G H₀ L F3 H3 σ2 ss') S3 rx fun σ' S' => ⟨rfl, S'⟩
      have fin : ∀ σ2, Sat K G H₀ L F3 H3 σ2 ss' → tt σ2 H3 fun b H5 => if b = true then te σ2 H5 fun y H6 => ∃ xs, H6 l = some (.lst xs) ∧ xs.length < sizeLine ∧ (∃ F2 vs, Ext F1 H1 F2 (upd H6 l (.lst (xs ++ [y]))) ∧ F2 l = none ∧ (upd H6 l (.lst (xs ++ [y]))) l = some (.lst vs) ∧ Reps K F2 (((List.range (i + 1)).filter p).map f) vs ∧ vs.length ≤ i + 1) else ∃ F2 vs, Ext F1 H1 F2 H5 ∧ F2 l = none ∧ H5 l = some (.lst vs) ∧ Reps K F2 (((List.range (i + 1)).filter p).map f) vs ∧ vs.length ≤ i + 1 := fun σ2 S2 => by
        refine evt F3 H3 σ2 _ S2 fun F5 H5 e5 => ?_
        have S5 := S2.ext2 e5
        have hl5 : H5 l = some (.lst vs) := e5.hh l _ hl3
        have fl5 : F5 l = none := (e5.no l _ hl3).trans fl3
        have gf : Same F2 F5 := e3.gf.trans e5.gf
        cases hp : p i with
        | false =>
          refine iteF ⟨F5, vs, (e2.trans e3).trans e5, fl5, hl5, ?_, by omega⟩
          rw [List.range_succ, List.filter_append, List.filter_cons, hp]
          simpa using rs.mono gf
        | true =>
          refine iteT (ev hp F5 H5 σ2 _ S5 fun v F6 H6 e6 rv => ?_)
          have hl6 : H6 l = some (.lst vs) := e6.hh l _ hl5
          have fl6 : F6 l = none := (e6.no l _ hl5).trans fl5
          refine ⟨vs, hl6, by omega, F6, vs ++ [v], (((e2.trans e3).trans e5).trans e6).write fl6 hl, fl6, upd_same, ?_, by simp; omega⟩
          rw [List.range_succ, List.filter_append, List.filter_cons, hp, if_pos rfl, List.map_append]
          exact (rs.mono (gf.trans e6.gf)).snoc rv
      refine hk x (lcS nt cs σ) H3 _ _ (fun σ2 H4 h l1 d1 => ?_) base
      obtain ⟨rfl, S2⟩ := h
      exact ⟨⟨by rw [l1]; unfold lcS; simp, d1⟩, fin σ2 S2⟩
    · have e : i = n := by omega
      subst e
      exact .inl ⟨it2, q l vs F2 H2 (e1.trans e2) (e1.hh.free hl) fl hl2 rs⟩
end
end L2

set_option Elab.async false
set_option linter.all false
set_option maxRecDepth 100000
set_option maxHeartbeats 4000000
/-! sorted, of fewer than 64 things: the mathematics of the runs and the insertions -/
namespace L2
open PySem PySem.W PyProof.Rows
section
variable (key : Nat → Int)
/-- the key at a place -/
def kk (p : Array Nat) (i : Nat) : Int := key (p.getD i 0)
def Up (p : Array Nat) (n : Nat) : Prop := ∀ i j, i ≤ j → j < n → kk key p i ≤ kk key p j
def Dn (p : Array Nat) (n : Nat) : Prop := ∀ i j, i ≤ j → j < n → kk key p j ≤ kk key p i
variable {key}
theorem Up.snoc {p : Array Nat} {n : Nat} (h : Up key p n) (h0 : 0 < n) (hn : kk key p (n - 1) ≤ kk key p n) : Up key p (n + 1) := fun i j h1 h2 => by
  by_cases hj : j < n
  · exact h i j h1 hj
  · have : j = n := by omega
    subst this
    by_cases hi : i = j
    · subst hi; exact Int.le_refl _
    · exact Int.le_trans (h i (j - 1) (by omega) (by omega)) hn
theorem Dn.snoc {p : Array Nat} {n : Nat} (h : Dn key p n) (h0 : 0 < n) (hn : kk key p n ≤ kk key p (n - 1)) : Dn key p (n + 1) := fun i j h1 h2 => by
  by_cases hj : j < n
  · exact h i j h1 hj
  · have : j = n := by omega
    subst this
    by_cases hi : i = j
    · subst hi; exact Int.le_refl _
    · exact Int.le_trans hn (h i (j - 1) (by omega) (by omega))
/-- what a counted run is worth -/
def Good (key : Nat → Int) (p : Array Nat) (nrem : Nat) (r : Nat × Array Nat) : Prop := 1 ≤ r.1 ∧ r.1 ≤ nrem ∧ r.2.size = p.size ∧ r.2.Perm p ∧ Up key r.2 r.1
theorem Good.perm {p q : Array Nat} {nrem : Nat} {r : Nat × Array Nat} (h : Good key p nrem r) (hp : p.Perm q) (hs : p.size = q.size) : Good key q nrem r := ⟨h.1, h.2.1, h.2.2.1.trans hs, h.2.2.2.1.trans hp, h.2.2.2.2⟩
end
end L2

set_option Elab.async false
set_option linter.all false
set_option maxRecDepth 100000
set_option maxHeartbeats 4000000
/-! sorted, of lists of any length, whatever sorts their runs -/
namespace L2
open PySem PySem.W PyProof.Rows
section
variable {prog : Program} {w : World} {A : Around} {E : Value → Shared → Prop} {s : Shared}
def Keeps (h h' : Heap) : Prop := ∀ b o, h.get? b = some o → h'.get? b = some o
end
end L2

set_option Elab.async false
set_option linter.all false
set_option maxRecDepth 100000
set_option maxHeartbeats 4000000
/-! sorted, below 64: what is asked lies in the list -/
namespace L2
open PySem PySem.W PyProof.Rows
def InR {α : Type} (n : Nat) (P : α → Prop) : KasT α → Prop
  | .ret a => P a
  | .ask i j k => i < n ∧ j < n ∧ ∀ b, InR n P (k b)
theorem InR.bind {α β : Type} {n : Nat} {f : α → KasT β} {P : α → Prop} {Q : β → Prop} (hf : ∀ a, P a → InR n Q (f a)) : ∀ {t : KasT α}, InR n P t → InR n Q (t.bind f)
  | .ret a, h => hf a h
  | .ask i j k, h => ⟨h.1, h.2.1, fun b => InR.bind hf (h.2.2 b)⟩
def Ent (n : Nat) (p : Array Nat) : Prop := ∀ i, p.getD i 0 < n
theorem Ent.perm {n : Nat} {p q : Array Nat} (h : Ent n p) (hp : q.Perm p) (hn : 0 < n) : Ent n q := fun i => by
  have e : ∀ (q : Array Nat) (m : Nat), q.getD m 0 = (q[m]?).getD 0 := fun q m => by simp [Array.getD_eq_getD_getElem?]
  rw [e]
  cases hq : q[i]? with
  | none => exact hn
  | some x =>
    have hx : x ∈ q := Array.mem_of_getElem? hq
    have hx2 : x ∈ p := hp.mem_iff.mp hx
    obtain ⟨j, hj, ej⟩ := Array.mem_iff_getElem.mp hx2
    have := h j
    rw [e, Array.getElem?_eq_getElem hj, ej] at this
    exact this
section
variable {n : Nat} (hn : 0 < n)
include hn in
include hn in
include hn in
include hn in
include hn in
include hn in
end
section
variable {prog : Program} {w : World} {A : Around} {s : Shared}
end
end L2

set_option Elab.async false
set_option linter.all false
set_option maxRecDepth 100000
set_option maxHeartbeats 4000000
/-! sorted, of data: texts, numbers, tuples of such -/
namespace L2
open PySem PySem.W PyProof.Rows
def D.fo : D → List Int
  | .str l => l.map Int.ofNat
  | .int i => [i]
  | _ => []
def D.ord : D → List (List Int)
  | .tup ds => ds.map D.fo
  | .lst ds => ds.map D.fo
  | d => [d.fo]
inductive Ty where | s | i
def Ty.ok : Ty → D → Bool
  | .s, .str _ => true
  | .i, .int _ => true
  | _, _ => false
def shOk : List Ty → List D → Bool
  | [], [] => true
  | t :: ts, d :: ds => t.ok d && shOk ts ds
  | _, _ => false
/-- what can be put in order -/
def Alike (ds : List D) : Prop := (∀ d ∈ ds, Ty.ok .s d = true) ∨ (∀ d ∈ ds, Ty.ok .i d = true) ∨ ∃ t ts, ∀ d ∈ ds, ∃ es, d = .tup es ∧ shOk (t :: ts) es = true
/-! ranks -/
/-! the asking -/
section
variable {prog : Program} {w : World} {A : Around} {E : Value → Shared → Prop} {s : Shared}
/-- a flat thing's value -/
def FV : D → Value → Prop
  | .str l, u => ∃ t, u = .str (T l) t
  | .int i, u => ∃ t, u = .int i t
  | _, _ => False
inductive FVs : List D → List Value → Prop
  | nil : FVs [] []
  | cons {d ds u us} : FV d u → FVs ds us → FVs (d :: ds) (u :: us)
end
end L2

set_option Elab.async false
set_option linter.all false
set_option maxRecDepth 100000
set_option maxHeartbeats 1000000
/-! sorting of any length: the gallops -/
namespace L2
open PySem PySem.W PyProof.Rows
section
variable {prog : Program} {w : World} {A : Around} {E : Value → Shared → Prop} {s : Shared} {κ : SortKind} {it : Array Keyed} {n : Nat} {key : Nat → Int}
end
end L2

set_option Elab.async false
set_option linter.all false
set_option maxRecDepth 100000
set_option maxHeartbeats 1000000
/-! sorting of any length: two sorted runs made one -/
namespace L2
open PySem PySem.W PyProof.Rows
structure MI (R : Nat → Nat → Prop) (ua ub o : List Nat) (i j : Nat) : Prop where
  hi : i ≤ ua.length
  hj : j ≤ ub.length
  pw : o.Pairwise R
  pa : ∀ x ∈ o, ∀ y ∈ ua.drop i, R x y
  pb : ∀ x ∈ o, ∀ y ∈ ub.drop j, R x y
  pm : o.Perm (ua.take i ++ ub.take j)
section
variable {R : Nat → Nat → Prop} {ua ub o : List Nat} {i j : Nat}
theorem MI.swap (h : MI R ua ub o i j) : MI R ub ua o j i := ⟨h.hj, h.hi, h.pw, h.pb, h.pa, h.pm.trans List.perm_append_comm⟩
theorem MI.fin (h : MI R ua ub o ua.length ub.length) : o.Pairwise R ∧ o.Perm (ua ++ ub) := ⟨h.pw, by simpa using h.pm⟩
theorem MI.len (h : MI R ua ub o i j) : o.length = i + j := by
  have := h.pm.length_eq
  have h1 := h.hi
  have h2 := h.hj
  simp at this; omega
end
def AK (it : Array Keyed) (o : List Nat) : Array Keyed := (o.map (kas_item it)).toArray
def SS (st st' : SortSt) : Prop := kindOf st' = kindOf st ∧ arrOf st' = arrOf st ∧ pendingOf st' = pendingOf st ∧ failedOf st' = failedOf st
theorem SS.refl (st : SortSt) : SS st st := ⟨rfl, rfl, rfl, rfl⟩
section
variable {prog : Program} {w : World} {A : Around} {E : Value → Shared → Prop} {s : Shared} {κ : SortKind} {it : Array Keyed} {n : Nat} {key : Nat → Int}
/-- what a merge leaves -/
def Res (it : Array Keyed) (key : Nat → Int) (ua ub : List Nat) (r : Array Keyed) : Prop := ∃ q : List Nat, r = AK it q ∧ q.Perm (ua ++ ub) ∧ q.Pairwise fun x y => key x ≤ key y
theorem Res.of {ua ub o : List Nat} (h : MI (fun x y => key x ≤ key y) ua ub o ua.length ub.length) : Res it key ua ub (AK it o) := ⟨o, rfl, h.fin.2, h.fin.1⟩
end
end L2

set_option Elab.async false
set_option linter.all false
set_option maxRecDepth 100000
set_option maxHeartbeats 2000000
/-! sorting of any length: the merge from below -/
namespace L2
open PySem PySem.W PyProof.Rows
section
variable {prog : Program} {w : World} {A : Around} {E : Value → Shared → Prop} {s : Shared} {κ : SortKind} {it : Array Keyed} {n : Nat} {key : Nat → Int}
end
end L2

set_option Elab.async false
set_option linter.all false
set_option maxRecDepth 100000
set_option maxHeartbeats 2000000
/-! sorting of any length: the merge from above -/
namespace L2
open PySem PySem.W PyProof.Rows
abbrev RG (key : Nat → Int) : Nat → Nat → Prop := fun x y => key y ≤ key x
def MH (key : Nat → Int) (pa pb o : List Nat) (na nb : Nat) : Prop := na ≤ pa.length ∧ nb ≤ pb.length ∧ MI (RG key) pa.reverse pb.reverse o (pa.length - na) (pb.length - nb)
section
variable {key : Nat → Int} {pa pb o : List Nat} {na nb : Nat}
theorem MH.swap (h : MH key pa pb o na nb) : MH key pb pa o nb na := ⟨h.2.1, h.1, h.2.2.swap⟩
theorem MH.len (h : MH key pa pb o na nb) : o.length + na + nb = pa.length + pb.length := by
  have := h.2.2.len
  have h1 := h.1
  have h2 := h.2.1
  omega
end
section
variable {prog : Program} {w : World} {A : Around} {E : Value → Shared → Prop} {s : Shared} {κ : SortKind} {it : Array Keyed} {n : Nat} {key : Nat → Int}
end
end L2

set_option Elab.async false
set_option linter.all false
set_option maxRecDepth 100000
set_option maxHeartbeats 2000000
/-! sorting of any length: two neighbouring runs -/
namespace L2
open PySem PySem.W PyProof.Rows
def Seg (key : Nat → Int) (p : Array Nat) (i j : Nat) : Prop := ∀ s t, i ≤ s → s ≤ t → t < j → kk key p s ≤ kk key p t
section
variable {prog : Program} {w : World} {A : Around} {E : Value → Shared → Prop} {s : Shared} {κ : SortKind} {it : Array Keyed} {n : Nat} {key : Nat → Int}
/-- how the state stands -/
def Sta (κ : SortKind) (it : Array Keyed) (st : SortSt) (p : Array Nat) (pend : Array (Nat × Nat × Nat)) : Prop := kindOf st = κ ∧ arrOf st = p.map (kas_item it) ∧ pendingOf st = pend ∧ failedOf st = none
end
end L2

set_option Elab.async false
set_option linter.all false
set_option maxRecDepth 100000
set_option maxHeartbeats 2000000
/-! sorting of any length: runs counted, and lengthened -/
namespace L2
open PySem PySem.W PyProof.Rows
def Mv (p p' : Array Nat) (lo hi : Nat) : Prop := p'.size = p.size ∧ p'.Perm p ∧ ∀ t, t < lo ∨ hi ≤ t → p'.getD t 0 = p.getD t 0
theorem Mv.refl (p : Array Nat) (lo hi : Nat) : Mv p p lo hi := ⟨rfl, Array.Perm.refl _, fun _ _ => rfl⟩
theorem Mv.trans {p q r : Array Nat} {lo hi : Nat} (h : Mv p q lo hi) (k : Mv q r lo hi) : Mv p r lo hi := ⟨k.1.trans h.1, k.2.1.trans h.2.1, fun t ht => (k.2.2 t ht).trans (h.2.2 t ht)⟩
def Sgd (key : Nat → Int) (p : Array Nat) (i j : Nat) : Prop := ∀ s t, i ≤ s → s ≤ t → t < j → kk key p t ≤ kk key p s
section
variable {key : Nat → Int} {p : Array Nat} {i j : Nat}
theorem Seg.snoc (h : Seg key p i j) (hij : i < j) (hn : kk key p (j - 1) ≤ kk key p j) : Seg key p i (j + 1) := fun s t h1 h2 h3 => by
  by_cases e : t = j
  · subst e
    by_cases e2 : s = t
    · subst e2; exact Int.le_refl _
    · exact Int.le_trans (h s (t - 1) h1 (by omega) (by omega)) hn
  · exact h s t h1 h2 (by omega)
theorem Sgd.snoc (h : Sgd key p i j) (hij : i < j) (hn : kk key p j ≤ kk key p (j - 1)) : Sgd key p i (j + 1) := fun s t h1 h2 h3 => by
  by_cases e : t = j
  · subst e
    by_cases e2 : s = t
    · subst e2; exact Int.le_refl _
    · exact Int.le_trans hn (h s (t - 1) h1 (by omega) (by omega))
  · exact h s t h1 h2 (by omega)
theorem Seg.one : Seg key p i (i + 1) := fun s t h1 h2 h3 => by
  have : s = t := by omega
  subst this; exact Int.le_refl _
theorem Sgd.congr {p' : Array Nat} (h : Sgd key p i j) (e : ∀ k, kk key p' k = kk key p k) : Sgd key p' i j := fun s t h1 h2 h3 => by rw [e, e]; exact h s t h1 h2 h3
end
section
variable {prog : Program} {w : World} {A : Around} {E : Value → Shared → Prop} {s : Shared} {κ : SortKind} {it : Array Keyed} {n : Nat} {key : Nat → Int}
theorem Sta.get {st : SortSt} {p : Array Nat} {pend : Array (Nat × Nat × Nat)} (h : Sta κ it st p pend) {i : Nat} (hi : i < p.size) : (arrOf st)[i]? = some (kas_item it (p.getD i 0)) := by
  rw [h.2.1]
  have e : p.getD i 0 = p[i] := by simp [Array.getD, hi]
  rw [e]; simp [hi]
end
end L2

set_option Elab.async false
set_option linter.all false
set_option maxRecDepth 100000
set_option maxHeartbeats 2000000
/-! sorting of any length -/
namespace L2
open PySem PySem.W PyProof.Rows
def Runs (key : Nat → Int) (p : Array Nat) : List (Nat × Nat × Nat) → Nat → Nat → Prop
  | [], lo, hi => lo = hi
  | r :: l, lo, hi => r.1 = lo ∧ 0 < r.2.1 ∧ Seg key p lo (lo + r.2.1) ∧ Runs key p l (lo + r.2.1) hi
section
variable {key : Nat → Int} {p : Array Nat}
theorem Runs.len : ∀ {l : List (Nat × Nat × Nat)} {lo hi : Nat}, Runs key p l lo hi → lo + l.length ≤ hi
  | [], _, _, h => by simp [Runs] at h; simp; omega
  | r :: l, lo, hi, h => by
    have := Runs.len h.2.2.2
    have := h.2.1
    simp; omega
theorem Runs.congr {p' : Array Nat} : ∀ {l : List (Nat × Nat × Nat)} {lo hi : Nat}, Runs key p l lo hi → (∀ t, lo ≤ t → t < hi → p'.getD t 0 = p.getD t 0) → Runs key p' l lo hi
  | [], _, _, h, _ => h
  | r :: l, lo, hi, h, e => by
    have hl := h.2.2.2.len
    refine ⟨h.1, h.2.1, fun s t h1 h2 h3 => ?_, h.2.2.2.congr fun t h1 h2 => e t (by omega) h2⟩
    unfold kk
    rw [e s h1 (by omega), e t (by omega) (by omega)]
    exact h.2.2.1 s t h1 h2 h3
theorem Runs.push : ∀ {l : List (Nat × Nat × Nat)} {lo hi m pw : Nat}, Runs key p l lo hi → 0 < m → Seg key p hi (hi + m) → Runs key p (l ++ [(hi, m, pw)]) lo (hi + m)
  | [], lo, hi, m, pw, h, hm, hs => by
    simp only [Runs] at h
    subst h
    exact ⟨rfl, hm, hs, rfl⟩
  | r :: l, lo, hi, m, pw, h, hm, hs => ⟨h.1, h.2.1, h.2.2.1, h.2.2.2.push hm hs⟩
theorem Runs.modify {f : Nat × Nat × Nat → Nat × Nat × Nat} (hf : ∀ r, (f r).1 = r.1 ∧ (f r).2.1 = r.2.1) : ∀ {l : List (Nat × Nat × Nat)} {i lo hi : Nat}, Runs key p l lo hi → Runs key p (l.modify i f) lo hi
  | [], i, lo, hi, h => by cases i <;> simpa using h
  | r :: l, 0, lo, hi, h => by
    rw [List.modify_zero_cons]
    simp only [Runs] at h ⊢
    rw [(hf r).1, (hf r).2]
    exact h
  | r :: l, i + 1, lo, hi, h => by
    rw [List.modify_succ_cons]
    exact ⟨h.1, h.2.1, h.2.2.1, h.2.2.2.modify hf⟩
theorem Runs.merge : ∀ {l : List (Nat × Nat × Nat)} {i lo hi : Nat}, Runs key p l lo hi → i + 1 < l.length → ∃ sa na pw sb nb pw2, l[i]? = some (sa, na, pw) ∧ l[i + 1]? = some (sb, nb, pw2) ∧ sb = sa + na ∧ 0 < na ∧ 0 < nb ∧ lo ≤ sa ∧ sb + nb ≤ hi ∧ Seg key p sa sb ∧ Seg key p sb (sb + nb) ∧
    ∀ p' : Array Nat, (∀ t, t < sa ∨ sb + nb ≤ t → p'.getD t 0 = p.getD t 0) → Seg key p' sa (sb + nb) → Runs key p' ((l.set i (sa, na + nb, pw)).eraseIdx (i + 1)) lo hi
  | [], i, lo, hi, h, hi1 => by simp at hi1
  | [r], 0, lo, hi, h, hi1 => by simp at hi1
  | (a1, a2, a3) :: (b1, b2, b3) :: l, 0, lo, hi, h, hi1 => by
    obtain ⟨e1, e2, e3, f1, f2, f3, f4⟩ := h
    dsimp only at e1 e2 e3 f1 f2 f3 f4
    have hl := f4.len
    subst e1
    subst f1
    refine ⟨a1, a2, a3, a1 + a2, b2, b3, rfl, rfl, rfl, e2, f2, Nat.le_refl _, by omega, e3, f3, fun p' hp hs => ?_⟩
    show Runs key p' ((a1, a2 + b2, a3) :: l) a1 hi
    refine ⟨rfl, by show 0 < a2 + b2; omega, ?_, ?_⟩
    · show Seg key p' a1 (a1 + (a2 + b2))
      rw [← Nat.add_assoc]; exact hs
    · show Runs key p' l (a1 + (a2 + b2)) hi
      rw [← Nat.add_assoc]
      exact f4.congr fun t h1 h2 => hp t (.inr h1)
  | r :: l, i + 1, lo, hi, h, hi1 => by
    obtain ⟨e1, e2, e3, e4⟩ := h
    obtain ⟨sa, na, pw, sb, nb, pw2, g1, g2, g3, g4, g5, g6, g7, g8, g9, g10⟩ := e4.merge (i := i) (by simpa using hi1)
    refine ⟨sa, na, pw, sb, nb, pw2, by simpa using g1, by simpa using g2, g3, g4, g5, by omega, g7, g8, g9, fun p' hp hs => ?_⟩
    show Runs key p' (r :: ((l.set i (sa, na + nb, pw)).eraseIdx (i + 1))) lo hi
    refine ⟨e1, e2, fun s t h1 h2 h3 => ?_, g10 p' hp hs⟩
    unfold kk
    rw [hp s (.inl (by omega)), hp t (.inl (by omega))]
    exact e3 s t h1 h2 h3
theorem Runs.whole {l : List (Nat × Nat × Nat)} {hi : Nat} (h : Runs key p l 0 hi) (hl : l.length ≤ 1) : Seg key p 0 hi := by
  match l, hl with
  | [], _ => simp only [Runs] at h; subst h; intro s t h1 h2 h3; omega
  | [r], _ =>
    obtain ⟨e1, e2, e3, e4⟩ := h
    simp only [Runs] at e4
    subst e4
    exact e3
end
section
variable {prog : Program} {w : World} {A : Around} {E : Value → Shared → Prop} {s : Shared} {κ : SortKind} {it : Array Keyed} {n : Nat} {key : Nat → Int}
/-- where the sorting stands -/
def Now (κ : SortKind) (it : Array Keyed) (key : Nat → Int) (p0 : Array Nat) (lo : Nat) (T : Array Nat) (st : SortSt) (len : Nat) : Prop := ∃ p pend, Sta κ it st p pend ∧ p.size = p0.size ∧ p.Perm p0 ∧ Runs key p pend.toList 0 lo ∧ pend.size = len ∧ ∀ t, lo ≤ t → p.getD t 0 = T.getD t 0
theorem Now.pow {p0 T : Array Nat} {lo len i : Nat} {st st5 : SortSt} {f : Nat × Nat × Nat → Nat × Nat × Nat} (hN : Now κ it key p0 lo T st len) (e5 : st5 = setPending st ((pendingOf st).modify i f)) (hf : ∀ r, (f r).1 = r.1 ∧ (f r).2.1 = r.2.1) : ∃ len', Now κ it key p0 lo T st5 len' := by
  obtain ⟨p, pend, hs, z, pm, hr, e, t⟩ := hN
  refine ⟨_, p, pend.modify i f, ?_, z, pm, ?_, rfl, t⟩
  · rw [e5]
    refine ⟨hs.1, hs.2.1, ?_, hs.2.2.2⟩
    show (pendingOf st).modify _ _ = _
    rw [hs.2.2.1]
  · rw [Array.toList_modify]
    exact hr.modify hf
end
end L2

set_option Elab.async false
set_option linter.all false
set_option maxRecDepth 100000
set_option maxHeartbeats 4000000
/-! sorted as a rule of the layer, at any length -/
namespace L2
open PySem PySem.W PyProof.Rows
section
variable {prog : Program} {w : World} {A : Around} {s : Shared}
end
section
variable {X : Cx} {pins : List (Addr × Obj)} {σ : St} {H : Hp} {s : Shared}
theorem FV.of {t : Ty} {d : D} {x : V} {u : Value} (ht : t.ok d = true) (r : Rep X.K H d x) (q : RelV x u) : FV d u := by
  cases t <;> cases d <;> simp [Ty.ok] at ht
  · rw [r.of_str] at q; exact q
  · rw [r.of_int] at q; exact q
theorem FVs.of : ∀ {ts : List Ty} {ds : List D} {xs : List V} {us : List Value}, shOk ts ds = true → Reps X.K H ds xs → Vals xs us → FVs ds us
  | [], ds, _, _, ht, r, q => by
    cases ds <;> simp [shOk] at ht
    rw [Reps] at r; subst r; cases q; exact .nil
  | t :: ts, ds, _, _, ht, r, q => by
    cases ds with
    | nil => simp [shOk] at ht
    | cons d ds =>
      simp only [shOk, Bool.and_eq_true] at ht
      rw [Reps] at r
      obtain ⟨x, xs, rfl, r1, r2⟩ := r
      cases q with
      | cons q1 q2 => exact .cons (FV.of ht.1 r1 q1) (FVs.of ht.2 r2 q2)
/-- a tuple's value in the heap -/
def TV (h : Heap) (es : List D) (u : Value) : Prop := ∃ a o its n, u = .ref a ∧ h.get? a = some o ∧ o.cls = .type "tuple" ∧ o.data = .seq its n ∧ FVs es its.toList
theorem Inv.tv (I : Inv X pins σ H s) {ts : List Ty} {es : List D} {x : V} {u : Value} (ht : shOk ts es = true) (r : Rep X.K H (.tup es) x) (q : RelV x u) : TV s.heap es u := by
  obtain ⟨p, xs, rfl, sq, rs⟩ := r.of_tup
  cases q
  obtain ⟨its, rv, ⟨o, e, c, n, hd⟩, _⟩ := I.tuple sq
  exact ⟨p, o, its.toArray, n, rfl, e, c, hd, by simpa using FVs.of ht rs rv⟩
def Ty.tv : Ty → Value
  | .s => .type "str"
  | .i => .type "int"
end
section
variable {K : PySem.W.Frag} {G H₀ L : Hp} {ss : List Sl} {t : TE} {ds : List D}
end
end L2

set_option Elab.async false
set_option linter.all false
set_option maxRecDepth 100000
set_option maxHeartbeats 2000000
/-! Python's own functions on data -/
namespace L2
open PySem PySem.W PySem.Spec PyProof.Rows
def cutD (xs : List D) (lo hi : Option Int) : List D := (xs.drop (HT.sIx xs.length 0 lo)).take (HT.sIx xs.length xs.length hi - HT.sIx xs.length 0 lo)
theorem Reps.cut {K : PySem.W.Frag} {H : Hp} {ds : List D} {xs : List V} (lo hi : Option Int) (h : Reps K H ds xs) : Reps K H (cutD ds lo hi) (cutV xs lo hi) := by
  unfold cutD cutV
  rw [← h.length]
  exact (h.drop _).take _
section
variable {K : PySem.W.Frag} {G H₀ L : Hp} {ss : List Sl} {t ta tb : TE} {d : D} {ds : List D}
/-! len -/
theorem ev_lenL (a : EvL K G H₀ L ss t ds) : Ev K G H₀ L ss (tCB (fun xs H Q => ∃ p ys, xs = [.ref p] ∧ (SqL K H p ys ∨ SqT K H p ys) ∧ Q (.int ys.length) H) (tCons t tNil)) (.int ds.length) := fun F H σ Q S q =>
  a F H σ _ S fun p vs F' H' e sq r => ⟨p, vs, rfl, .inl sq, q _ _ _ e (by rw [← r.length]; exact Rep.int)⟩
theorem ev_lenT (a : EvB K G H₀ L ss t (.tup ds)) : Ev K G H₀ L ss (tCB (fun xs H Q => ∃ p ys, xs = [.ref p] ∧ (SqL K H p ys ∨ SqT K H p ys) ∧ Q (.int ys.length) H) (tCons t tNil)) (.int ds.length) := fun F H σ Q S q =>
  a F H σ _ S fun v F' H' e r => by
    obtain ⟨p, vs, rfl, sq, rs⟩ := r.of_tup
    exact ⟨p, vs, rfl, .inr sq, q _ _ _ e (by rw [← rs.length]; exact Rep.int)⟩
theorem ev_lenS {l : List Nat} (a : EvB K G H₀ L ss t (.str l)) (hz : l.length ≤ sizeLine) : Ev K G H₀ L ss (tCB (fun xs H Q => ∃ z : Str, xs = [.str z] ∧ z.length ≤ sizeLine ∧ Q (.int z.length) H) (tCons t tNil)) (.int l.length) := fun F H σ Q S q =>
  a F H σ _ S fun v F' H' e r => by
    rw [r.of_str]
    exact ⟨T l, rfl, by rw [T_len]; exact hz, q _ _ _ e (by rw [T_len]; exact Rep.int)⟩
/-! list(x) -/
/-! slices -/
def EvP (K : PySem.W.Frag) (G H₀ L : Hp) (ss : List Sl) (t : TO) (o : Option Int) : Prop := ∀ F H σ (Q : Option Int → Hp → Prop), Sat K G H₀ L F H σ ss → (∀ F' H', Ext F H F' H' → Q o H') → t σ H Q
theorem evp_no : EvP K G H₀ L ss tNoPart none := fun F H σ Q S q => q _ _ (Ext.refl S.ext.fh)
theorem evp_part {i : Int} (a : EvB K G H₀ L ss t (.int i)) : EvP K G H₀ L ss (tPart t) (some i) := fun F H σ Q S q => a F H σ _ S fun v F' H' e r => ⟨i, r.of_int, q _ _ e⟩
theorem evo_slL {tl th : TO} {lo hi : Option Int} (a : EvL K G H₀ L ss t ds) (b : EvP K G H₀ L ss tl lo) (c : EvP K G H₀ L ss th hi) : EvO K G H₀ L ss (tSl (rSlL K) t tl th) (cutD ds lo hi) := fun F H σ Q S q =>
  a F H σ _ S fun p vs F1 H1 e1 sq r => b F1 H1 σ _ (S.ext2 e1) fun F2 H2 e2 => c F2 H2 σ _ ((S.ext2 e1).ext2 e2) fun F3 H3 e3 =>
    ⟨p, vs, rfl, SqL.same e3.hh (SqL.same e2.hh sq), fun l hl => q l _ F3 _ (((e1.trans e2).trans e3).newO hl) (((e1.trans e2).trans e3).hh.free hl) (((e1.trans e2).trans e3).fh.free hl) upd_same (((r.mono e2.gf).mono e3.gf).cut lo hi)⟩
theorem ev_slS {tl th : TO} {lo hi : Option Int} {l : List Nat} (a : EvB K G H₀ L ss t (.str l)) (b : EvP K G H₀ L ss tl lo) (c : EvP K G H₀ L ss th hi) (hz : l.length ≤ sizeLine) : Ev K G H₀ L ss (tSl rSlS t tl th) (.str (cutL l lo hi)) := fun F H σ Q S q =>
  a F H σ _ S fun v F1 H1 e1 r => b F1 H1 σ _ (S.ext2 e1) fun F2 H2 e2 => c F2 H2 σ _ ((S.ext2 e1).ext2 e2) fun F3 H3 e3 =>
    ⟨l, r.of_str, hz, q _ _ _ ((e1.trans e2).trans e3) (Rep.str fun c hc => r.asc c (List.mem_of_mem_drop (List.mem_of_mem_take hc)))⟩
/-! join -/
def glue (z : List Nat) : List (List Nat) → List Nat
  | [] => []
  | [x] => x
  | x :: y :: r => x ++ z ++ glue z (y :: r)
end
theorem glue_T (z : List Nat) : ∀ ls : List (List Nat), Str.join (T z) (ls.map T) = T (glue z ls)
  | [] => rfl
  | [x] => rfl
  | x :: y :: r => by
    have ih := glue_T z (y :: r)
    rw [List.map_cons] at ih
    rw [List.map_cons, List.map_cons]
    show T x ++ T z ++ Str.join (T z) (T y :: r.map T) = _
    rw [ih, T_app, T_app]; rfl
theorem glue_asc {z : List Nat} (hz : ∀ c ∈ z, c < 128) : ∀ {ls : List (List Nat)}, (∀ l ∈ ls, ∀ c ∈ l, c < 128) → ∀ c ∈ glue z ls, c < 128
  | [], _, c, h => by cases h
  | [x], hl, c, h => hl x List.mem_cons_self c h
  | x :: y :: r, hl, c, h => by
    rw [glue] at h
    rcases List.mem_append.mp h with h | h
    · rcases List.mem_append.mp h with h | h
      · exact hl x List.mem_cons_self c h
      · exact hz c h
    · exact glue_asc hz (ls := y :: r) (fun l hm => hl l (List.mem_cons_of_mem _ hm)) c h
theorem Reps.strs {K : PySem.W.Frag} {H : Hp} : ∀ {ls : List (List Nat)} {vs : List V}, Reps K H (ls.map D.str) vs → vs = (ls.map T).map V.str ∧ ∀ l ∈ ls, ∀ c ∈ l, c < 128
  | [], vs, h => by rw [List.map_nil, Reps] at h; subst h; exact ⟨rfl, by simp⟩
  | l :: ls, vs, h => by
    rw [List.map_cons, Reps] at h
    obtain ⟨x, xs, rfl, h1, h2⟩ := h
    obtain ⟨e, ha⟩ := h2.strs
    refine ⟨by rw [h1.of_str, e]; rfl, fun m hm => ?_⟩
    rcases List.mem_cons.mp hm with rfl | hm
    · exact h1.asc
    · exact ha m hm
section
variable {K : PySem.W.Frag} {G H₀ L : Hp} {ss : List Sl} {t ta tb : TE} {d : D} {ds : List D}
theorem ev_join {z : List Nat} {ls : List (List Nat)} (a : EvB K G H₀ L ss ta (.str z)) (b : EvL K G H₀ L ss t (ls.map D.str)) (hz : (ls.map List.length).sum + ls.length * z.length ≤ 16777216) : Ev K G H₀ L ss (tBM K "str" (rJoin K) ta (tCons t tNil)) (.str (glue z ls)) := fun F H σ Q S q =>
  a F H σ _ S fun v F1 H1 e1 r1 => by
    rw [r1.of_str]
    refine ⟨rfl, b F1 H1 σ _ (S.ext2 e1) fun p vs F2 H2 e2 sq r2 => ?_⟩
    obtain ⟨rfl, ha⟩ := r2.strs
    refine ⟨T z, p, ls.map T, rfl, rfl, sq, ?_, ?_⟩
    · rw [List.map_map, List.length_map, T_len, show ((fun x : Str => x.length) ∘ T) = List.length from funext fun l => T_len l]; exact hz
    · rw [glue_T]
      exact q _ _ _ (e1.trans e2) (Rep.str (glue_asc r1.asc ha))
/-! isinstance -/
theorem ev_isS {l : List Nat} (a : EvB K G H₀ L ss t (.str l)) : Ev K G H₀ L ss (tCB (fun xs H Q => ∃ x, xs = [.str x, .ty "str"] ∧ Q (.bl true) H) (tCons t (tCons (tC (.ty "str")) tNil))) (.bl true) := fun F H σ Q S q =>
  a F H σ _ S fun v F1 H1 e1 r1 => ⟨T l, by rw [r1.of_str], q _ _ _ e1 Rep.bl⟩
theorem ev_isT (a : EvB K G H₀ L ss t (.tup ds)) : Ev K G H₀ L ss (tCB (fun xs H Q => ∃ p ys, xs = [.ref p, .ty "tuple"] ∧ SqT K H p ys ∧ Q (.bl true) H) (tCons t (tCons (tC (.ty "tuple")) tNil))) (.bl true) := fun F H σ Q S q =>
  a F H σ _ S fun v F1 H1 e1 r1 => by
    obtain ⟨p, vs, rfl, sq, _⟩ := r1.of_tup
    exact ⟨p, vs, rfl, sq, q _ _ _ e1 Rep.bl⟩
end
/-! strip -/
def stripL (goes : Nat → Bool) (l : List Nat) : List Nat := ((l.dropWhile goes).reverse.dropWhile goes).reverse
theorem drop_takeWhile (g : Nat → Bool) : ∀ l : List Nat, l.drop (l.takeWhile g).length = l.dropWhile g
  | [] => rfl
  | x :: l => by
    rw [List.takeWhile_cons, List.dropWhile_cons]
    cases g x with
    | true => simp only [if_true, List.length_cons, List.drop_succ_cons]; exact drop_takeWhile g l
    | false => rfl
theorem strip_T (l y : List Nat) : Txt.stripChars (T l) (T y) = T (stripL y.contains l) := by
  have ct : (T y).cps.contains = y.contains := by funext c; simp [T]
  have key : PySem.stripped y.contains true true (T l) = T (stripL y.contains l) := by
    unfold PySem.stripped PySem.stripLo PySem.stripHi
    simp only [if_true, T_cps, T_len]
    rw [drop_takeWhile]
    have h1 : (l.takeWhile y.contains).length + (l.dropWhile y.contains).length = l.length := by
      rw [← List.length_append, List.takeWhile_append_dropWhile]
    have e : Builtin.Str.strSub (T l) (l.takeWhile y.contains).length (l.length - ((l.dropWhile y.contains).reverse.takeWhile y.contains).length) = T ((l.drop (l.takeWhile y.contains).length).take (l.length - ((l.dropWhile y.contains).reverse.takeWhile y.contains).length - (l.takeWhile y.contains).length)) := by
      unfold Builtin.Str.strSub
      congr 1
      apply Array.toList_inj.mp
      rw [Array.toList_extract]
      show List.extract (T l).cps.toList _ _ = _
      rw [T_cps]
    rw [e, drop_takeWhile]
    congr 1
    unfold stripL
    have h2 := drop_takeWhile y.contains (l.dropWhile y.contains).reverse
    rw [← h2]
    have h3 : ((l.dropWhile y.contains).reverse.takeWhile y.contains).length ≤ (l.dropWhile y.contains).length := by
      have := (List.takeWhile_sublist (p := y.contains) (l := (l.dropWhile y.contains).reverse)).length_le
      simpa using this
    rw [List.drop_reverse, List.reverse_reverse]
    congr 1; omega
  unfold Txt.stripChars Txt.stripBy
  rw [ct]
  split
  · rename_i h
    rw [← key]
    unfold stripSame at h
    simp only [Bool.and_eq_true, beq_iff_eq] at h
    unfold PySem.stripped
    rw [h.2, h.1]
    unfold Builtin.Str.strSub
    have : (T l).cps.extract 0 (T l).length = (T l).cps := by
      show (T l).cps.extract 0 (T l).cps.size = _
      simp
    rw [this]
  · exact key
def rStripC : V → List V → Hp → VK → Prop := fun x vs H Q => ∃ z y, x = .str z ∧ vs = [.str y] ∧ z.length ≤ sizeLine ∧ Q (.str (Txt.stripChars z y)) H
section
variable {X : Cx}
theorem mt_stripC : MtR X "str.strip" rStripC := by
  intro pins s σ H x xs v us Q I rx rs h
  obtain ⟨z, y, rfl, rfl, hz, q⟩ := h
  obtain ⟨t, rfl⟩ := rx
  obtain ⟨u, rfl, ru⟩ := Vals.one rs
  obtain ⟨u, rfl⟩ := ru
  exact SC.stripChars (fun t' k => ⟨.str _, H, I.tok _, ⟨_, rfl⟩, q⟩) hz
end
section
variable {K : PySem.W.Frag} {G H₀ L : Hp} {ss : List Sl} {t ta tb : TE} {d : D} {ds : List D}
theorem ev_strip {l y : List Nat} (a : EvB K G H₀ L ss ta (.str l)) (b : EvB K G H₀ L ss t (.str y)) (hz : l.length ≤ sizeLine) : Ev K G H₀ L ss (tBM K "str" rStripC ta (tCons t tNil)) (.str (stripL y.contains l)) := fun F H σ Q S q =>
  a F H σ _ S fun v F1 H1 e1 r1 => by
    rw [r1.of_str]
    refine ⟨rfl, b F1 H1 σ _ (S.ext2 e1) fun v2 F2 H2 e2 r2 => ?_⟩
    refine ⟨T l, T y, rfl, by rw [r2.of_str], by rw [T_len]; exact hz, ?_⟩
    rw [strip_T]
    refine q _ _ _ (e1.trans e2) (Rep.str fun c hc => r1.asc c ?_)
    unfold stripL at hc
    exact (List.dropWhile_sublist _).subset (List.mem_reverse.mp ((List.dropWhile_sublist _).subset (List.mem_reverse.mp hc)))
end
end L2

set_option Elab.async false
set_option linter.all false
set_option maxRecDepth 100000
set_option maxHeartbeats 2000000
/-! all, any, min and max of texts -/
namespace L2
open PySem PySem.W PySem.Spec PyProof.Rows
def rAll (K : PySem.W.Frag) : List V → Hp → VK → Prop := fun xs H Q => ∃ p, ∃ bs : List Bool, xs = [.ref p] ∧ SqL K H p (bs.map V.bl) ∧ Q (.bl (bs.all id)) H
section
variable {X : Cx} {prog : Program} {w : World} {A : Around} {E : Value → Shared → Prop} {s : Shared}
theorem old_kept {h' : Heap} {o : Obj} {k : Nat} (hk : ∀ b x, b ∉ [s.heap.objs.size] → (s.heap.push o).get? b = some x → h'.get? b = some x) : Keeps s.heap h' := fun b x e => by
  refine hk b x (fun hm => ?_) (Heap.get?_push_of_some _ e)
  have h1 := Heap.lt_size e
  rw [List.mem_singleton.mp hm] at h1
  exact Nat.lt_irrefl _ h1
theorem vals_bl : ∀ {bs : List Bool} {us : List Value}, Vals (bs.map V.bl) us → us = bs.map Value.bool
  | [], _, .nil => rfl
  | b :: bs, _, .cons r1 r2 => by rw [vals_bl r2]; cases r1; rfl
theorem range_allB : ∀ bs : List Bool, ((List.range bs.length).all fun i => (bs[i]?).getD true) = bs.all id := fun bs => by
  rw [Bool.eq_iff_iff, List.all_eq_true, List.all_eq_true]
  constructor
  · intro h b hb
    obtain ⟨i, hi, e⟩ := List.getElem_of_mem hb
    have := h i (List.mem_range.mpr hi)
    rw [List.getElem?_eq_getElem hi, Option.getD_some, e] at this
    exact this
  · intro h i hi
    have hi' := List.mem_range.mp hi
    rw [List.getElem?_eq_getElem hi', Option.getD_some]
    exact h _ (List.getElem_mem hi')
theorem call_all (hc : X.calm = true) : CallR X (.builtin "all") (rAll X.K) := by
  intro pins s σ H xs us Q I r h
  obtain ⟨p, bs, rfl, hq, q⟩ := h
  obtain ⟨u, rfl, ru⟩ := vals1 r
  cases ru
  obtain ⟨its, rv, pl, _⟩ := I.list hq
  obtain rfl := vals_bl rv
  have hl := pl.isList
  have hlt : p < s.heap.objs.size := by obtain ⟨_, e, _⟩ := hl; exact Heap.lt_size e
  refine call_all_walk (wpAny_pyIter_list hl ⟨s.heap.objs.size, [s.heap.objs.size, p], [s.heap.objs.size], (bs.map Value.bool).toArray.size, _, _, fun i => (bs[i]?).getD true, rfl,
    Walks.list (A := X.A.in1) (I.ok.hd hc) _ p (Nat.ne_of_lt hlt) _, ⟨⟨_, Heap.get?_push_size _ rfl, rfl, rfl⟩, hl.push _⟩, fun i v s' Q' E' hP hQ => ?_, fun h' tk hk => ?_⟩)
  · have hP' : (bs.map Value.bool)[i]? = some v := by simpa using hP
    rw [List.getElem?_map] at hP'
    cases hb : bs[i]? with
    | none => rw [hb] at hP'; cases hP'
    | some b =>
      rw [hb] at hP'
      cases hP'
      simp only [hb, Option.getD_some] at hQ
      exact wpAny_truthy_bool hQ
  · have e : ((List.range (bs.map Value.bool).toArray.size).all fun i => (bs[i]?).getD true) = bs.all id := by
      rw [List.size_toArray, List.length_map]; exact range_allB bs
    rw [e]
    exact ⟨.bl _, H, I.kept (old_kept (k := 0) hk), rfl, q⟩
/-! min and max of two texts -/
def two (x y : Str) (t u : Tok) : Array Value := #[.str x t, .str y u]
theorem two_at {x y : Str} {t u : Tok} : ∀ (i : Nat) (v : Value), (two x y t u)[i]? = some v → ∃ k, v = .str (if i = 0 then x else y) k
  | 0, v, h => ⟨t, by simp [two] at h; simp [h.symm]⟩
  | 1, v, h => ⟨u, by simp [two] at h; simp [h.symm]⟩
  | i + 2, v, h => by simp [two] at h
theorem min_two_texts {x y : Str} {t u : Tok} {Q : Value → Shared → Prop} (hh : A.handled = none)
    (h : ∀ h' tk, Keeps s.heap h' → Q (if y.cps.toList < x.cps.toList then .str y u else .str x t) { s with heap := h', toks := tk }) : wpAny (model prog w) A (call (.builtin "min") [.str x t, .str y u]) Q E s := by
  have hT : (s.heap.push { cls := .type "tuple", data := .seq (two x y t u) }).IsTuple s.heap.objs.size (two x y t u) := ⟨_, Heap.get?_push_size _ rfl, rfl, 0, rfl⟩
  have hsz : (s.heap.push { cls := .type "tuple", data := .seq (two x y t u) }).objs.size = s.heap.objs.size + 1 := Heap.size_push ..
  refine call_min_two (wpAny_pyIter_tuple hT ?_)
  refine ⟨_, [_, s.heap.objs.size], [_], _, _, _, fun i j => decide ((if i = 0 then x else y).cps.toList < (if j = 0 then x else y).cps.toList), rfl, Walks.tuple (A := A.in1) hh _ s.heap.objs.size (Nat.ne_of_lt (by rw [Heap.size_push]; omega)) (two x y t u), ⟨⟨_, Heap.get?_push_size _ rfl, rfl, rfl⟩, hT.push _⟩, fun c hc => ?_, by simp [two], ?_, fun v h' tk hP hk => ?_⟩
  · show c < ((s.heap.push _).push _).objs.size
    rw [Heap.size_push, Heap.size_push]
    simp only [List.mem_cons, List.not_mem_nil, or_false] at hc
    rcases hc with rfl | rfl
    · rw [Heap.size_push]; exact Nat.lt_succ_self _
    · exact Nat.lt_succ_of_lt (Nat.lt_succ_self _)
  · intro i j vi vj s' Q' E' hi hj hq
    obtain ⟨k1, rfl⟩ := two_at i vi hi
    obtain ⟨k2, rfl⟩ := two_at j vj hj
    exact richCompare_gives (op := .Lt) (typeIs_str _ _ _) (typeIs_str _ _ _) F.slot_str_lt F.entry_str_lt (F.args_str_lt_2 _ _) (gives_str_lt _ _ _ _) (fun e => nomatch e) hq
  · have hold : Keeps s.heap h' := fun c o e => by
      have h1 := Heap.lt_size e
      refine hk c o (fun hm => ?_) (Heap.get?_push_of_some _ (Heap.get?_push_of_some _ e))
      rw [List.mem_singleton.mp hm, Heap.size_push] at h1; exact absurd (Nat.lt_of_succ_lt h1) (Nat.lt_irrefl _)
    have := h h' tk hold
    have hsz2 : (two x y t u).size - 1 = 1 := by simp [two]
    have hP' : (two x y t u)[argBest (fun i j => decide ((if i = 0 then x else y).cps.toList < (if j = 0 then x else y).cps.toList)) 1]? = some v := by rw [← hsz2]; exact hP
    by_cases hyx : y.cps.toList < x.cps.toList
    · have e : argBest (fun i j => decide ((if i = 0 then x else y).cps.toList < (if j = 0 then x else y).cps.toList)) 1 = 1 := by simp [argBest, hyx]
      rw [e] at hP'
      rw [if_pos hyx] at this
      simp [two] at hP'
      rw [← hP']; exact this
    · have e : argBest (fun i j => decide ((if i = 0 then x else y).cps.toList < (if j = 0 then x else y).cps.toList)) 1 = 0 := by simp [argBest, hyx]
      rw [e] at hP'
      rw [if_neg hyx] at this
      simp [two] at hP'
      rw [← hP']; exact this
theorem max_two_texts {x y : Str} {t u : Tok} {Q : Value → Shared → Prop} (hh : A.handled = none)
    (h : ∀ h' tk, Keeps s.heap h' → Q (if x.cps.toList < y.cps.toList then .str y u else .str x t) { s with heap := h', toks := tk }) : wpAny (model prog w) A (call (.builtin "max") [.str x t, .str y u]) Q E s := by
  have hT : (s.heap.push { cls := .type "tuple", data := .seq (two x y t u) }).IsTuple s.heap.objs.size (two x y t u) := ⟨_, Heap.get?_push_size _ rfl, rfl, 0, rfl⟩
  have hsz : (s.heap.push { cls := .type "tuple", data := .seq (two x y t u) }).objs.size = s.heap.objs.size + 1 := Heap.size_push ..
  refine call_max_two (wpAny_pyIter_tuple hT ?_)
  refine ⟨_, [_, s.heap.objs.size], [_], _, _, _, fun i j => decide ((if j = 0 then x else y).cps.toList < (if i = 0 then x else y).cps.toList), rfl, Walks.tuple (A := A.in1) hh _ s.heap.objs.size (Nat.ne_of_lt (by rw [Heap.size_push]; omega)) (two x y t u), ⟨⟨_, Heap.get?_push_size _ rfl, rfl, rfl⟩, hT.push _⟩, fun c hc => ?_, by simp [two], ?_, fun v h' tk hP hk => ?_⟩
  · show c < ((s.heap.push _).push _).objs.size
    rw [Heap.size_push, Heap.size_push]
    simp only [List.mem_cons, List.not_mem_nil, or_false] at hc
    rcases hc with rfl | rfl
    · rw [Heap.size_push]; exact Nat.lt_succ_self _
    · exact Nat.lt_succ_of_lt (Nat.lt_succ_self _)
  · intro i j vi vj s' Q' E' hi hj hq
    obtain ⟨k1, rfl⟩ := two_at i vi hi
    obtain ⟨k2, rfl⟩ := two_at j vj hj
    exact richCompare_gives (op := .Gt) (typeIs_str _ _ _) (typeIs_str _ _ _) F.slot_str_gt F.entry_str_gt (F.args_str_gt_2 _ _) (gives_str_gt _ _ _ _) (fun e => nomatch e) hq
  · have hold : Keeps s.heap h' := fun c o e => by
      have h1 := Heap.lt_size e
      refine hk c o (fun hm => ?_) (Heap.get?_push_of_some _ (Heap.get?_push_of_some _ e))
      rw [List.mem_singleton.mp hm, Heap.size_push] at h1; exact absurd (Nat.lt_of_succ_lt h1) (Nat.lt_irrefl _)
    have := h h' tk hold
    have hsz2 : (two x y t u).size - 1 = 1 := by simp [two]
    have hP' : (two x y t u)[argBest (fun i j => decide ((if j = 0 then x else y).cps.toList < (if i = 0 then x else y).cps.toList)) 1]? = some v := by rw [← hsz2]; exact hP
    by_cases hyx : x.cps.toList < y.cps.toList
    · have e : argBest (fun i j => decide ((if j = 0 then x else y).cps.toList < (if i = 0 then x else y).cps.toList)) 1 = 1 := by simp [argBest, hyx]
      rw [e] at hP'
      rw [if_pos hyx] at this
      simp [two] at hP'
      rw [← hP']; exact this
    · have e : argBest (fun i j => decide ((if j = 0 then x else y).cps.toList < (if i = 0 then x else y).cps.toList)) 1 = 0 := by simp [argBest, hyx]
      rw [e] at hP'
      rw [if_neg hyx] at this
      simp [two] at hP'
      rw [← hP']; exact this
theorem call_minS (hc : X.calm = true) : CallR X (.builtin "min") (fun xs H Q => ∃ l m : List Nat, xs = [.str (T l), .str (T m)] ∧ Q (.str (T (if m < l then m else l))) H) := by
  intro pins s σ H xs us Q I r h
  obtain ⟨l, m, rfl, q⟩ := h
  obtain ⟨u, w', rfl, ⟨t, rfl⟩, ⟨t', rfl⟩⟩ := vals2 r
  refine min_two_texts (I.ok.hd hc) fun h' tk k => ⟨_, H, I.kept k, ?_, q⟩
  rw [T_cps, T_cps]
  split <;> exact ⟨_, rfl⟩
theorem call_maxS (hc : X.calm = true) : CallR X (.builtin "max") (fun xs H Q => ∃ l m : List Nat, xs = [.str (T l), .str (T m)] ∧ Q (.str (T (if l < m then m else l))) H) := by
  intro pins s σ H xs us Q I r h
  obtain ⟨l, m, rfl, q⟩ := h
  obtain ⟨u, w', rfl, ⟨t, rfl⟩, ⟨t', rfl⟩⟩ := vals2 r
  refine max_two_texts (I.ok.hd hc) fun h' tk k => ⟨_, H, I.kept k, ?_, q⟩
  rw [T_cps, T_cps]
  split <;> exact ⟨_, rfl⟩
end
end L2

set_option Elab.async false
set_option linter.all false
set_option maxRecDepth 100000
set_option maxHeartbeats 2000000
/-! the order of tuples, asked with < -/
namespace L2
open PySem PySem.W PySem.Spec PyProof.Rows PySem.Calls
open PySem.MeetsSeq PySem.MeetsSeq2 PySem.MeetsSeq3
theorem FVs.len {ds : List D} {us : List Value} (h : FVs ds us) : us.length = ds.length := by
  induction h with
  | nil => rfl
  | cons _ _ ih => simp [ih]
section
variable {X : Cx}
end
section
variable {K : PySem.W.Frag} {G H₀ L : Hp} {ss : List Sl} {t ta tb : TE} {d : D} {ds es : List D}
theorem Reps.bools {H : Hp} : ∀ {bs : List Bool} {vs : List V}, Reps K H (bs.map D.bl) vs → vs = bs.map V.bl
  | [], vs, h => by rw [List.map_nil, Reps] at h; exact h
  | b :: bs, vs, h => by
    rw [List.map_cons, Reps] at h
    obtain ⟨x, xs, rfl, h1, h2⟩ := h
    rw [h1.of_bl, h2.bools]; rfl
theorem ev_all {bs : List Bool} (a : EvL K G H₀ L ss t (bs.map D.bl)) : Ev K G H₀ L ss (tCB (rAll K) (tCons t tNil)) (.bl (bs.all id)) := fun F H σ Q S q =>
  a F H σ _ S fun p vs F1 H1 e1 sq r1 => ⟨p, bs, rfl, by rw [r1.bools] at sq; exact sq, q _ _ _ e1 Rep.bl⟩
def minL (l m : List Nat) : List Nat := if m < l then m else l
def maxL (l m : List Nat) : List Nat := if l < m then m else l
theorem ev_minS {l m : List Nat} (a : EvB K G H₀ L ss ta (.str l)) (b : EvB K G H₀ L ss tb (.str m)) : Ev K G H₀ L ss (tCB (fun xs H Q => ∃ l m : List Nat, xs = [.str (T l), .str (T m)] ∧ Q (.str (T (if m < l then m else l))) H) (tCons ta (tCons tb tNil))) (.str (minL l m)) := fun F H σ Q S q =>
  a F H σ _ S fun v F1 H1 e1 r1 => b F1 H1 σ _ (S.ext2 e1) fun v2 F2 H2 e2 r2 => ⟨l, m, by rw [r1.of_str, r2.of_str], q _ _ _ (e1.trans e2) (Rep.str (by unfold minL; split; exact r2.asc; exact r1.asc))⟩
theorem ev_maxS {l m : List Nat} (a : EvB K G H₀ L ss ta (.str l)) (b : EvB K G H₀ L ss tb (.str m)) : Ev K G H₀ L ss (tCB (fun xs H Q => ∃ l m : List Nat, xs = [.str (T l), .str (T m)] ∧ Q (.str (T (if l < m then m else l))) H) (tCons ta (tCons tb tNil))) (.str (maxL l m)) := fun F H σ Q S q =>
  a F H σ _ S fun v F1 H1 e1 r1 => b F1 H1 σ _ (S.ext2 e1) fun v2 F2 H2 e2 r2 => ⟨l, m, by rw [r1.of_str, r2.of_str], q _ _ _ (e1.trans e2) (Rep.str (by unfold maxL; split; exact r2.asc; exact r1.asc))⟩
end
end L2

set_option Elab.async false
set_option linter.all false
set_option maxRecDepth 100000
set_option maxHeartbeats 2000000
/-! a def's body from its promise -/
namespace L2
open PySem PySem.W PySem.Spec PyProof.Rows
def slots (n : Nat) (ds : List D) : List Sl := ds.map Sl.d ++ List.replicate (n - ds.length) .un
section
variable {K : PySem.W.Frag} {H : Hp} {vs : List V} {Q : VK} {X : XK} {N : List Str} {t : TS} {pre : List D → Prop}
theorem sat_start {G : Hp} {ds : List D} (sm : Same G H) (r : Reps K G ds vs) (hN : vs.length ≤ N.length) : Sat K G H G G H (start N vs) (slots N.length ds) := by
  have hl := r.length
  have ads : ∀ (i : Nat) s, (slots N.length ds)[i]? = some s → s.ads = [] := fun i s hs => by
    have hm := List.mem_of_getElem? hs
    unfold slots at hm
    rcases List.mem_append.mp hm with h | h
    · obtain ⟨d, _, rfl⟩ := List.mem_map.mp h; rfl
    · rw [List.eq_of_mem_replicate h]; rfl
  refine ⟨Ext.refl sm, Same.refl _, ?_, fun i s hs => ?_, fun i s hs => by rw [ads i s hs]; exact List.nodup_nil, fun i j s s' _ hs _ p hp => by rw [ads i s hs] at hp; cases hp⟩
  · unfold start slots; simp; omega
  · by_cases hi : i < ds.length
    · have e : (slots N.length ds)[i]? = some (.d ds[i]) := by
        unfold slots
        rw [List.getElem?_append_left (by simpa using hi), List.getElem?_map, List.getElem?_eq_getElem hi]; rfl
      rw [e] at hs
      cases hs
      obtain ⟨v, hv, rv⟩ := r.get' (List.getElem?_eq_getElem hi)
      refine ⟨v, ?_, rv⟩
      unfold start
      rw [List.getD_eq_getElem?_getD, List.getElem?_append_left (by simp; omega), List.getElem?_map, hv]; rfl
    · have hm : s = .un := by
        unfold slots at hs
        rw [List.getElem?_append_right (by simp; omega)] at hs
        exact List.eq_of_mem_replicate (List.mem_of_getElem? hs)
      rw [hm]; trivial
theorem go_spD {res : List D → D} (h : SpD K pre res vs H Q X) (hN : vs.length ≤ N.length) (body : ∀ G ds, pre ds → RtD K G H Q (res ds) → Go K G H G { nx := fun _ H' => Q .non H', rt := Q } (slots N.length ds) t) : t { nx := fun _ H' => Q .non H', rt := Q } (start N vs) H := by
  obtain ⟨G, ds, sm, r, hp, q⟩ := h
  exact body G ds hp (fun v F H' e r => q v F H' e r) G H _ (sat_start sm r hN)
theorem go_spO {res : List D → List D} (h : SpO K pre res vs H Q X) (hN : vs.length ≤ N.length) (body : ∀ G ds, pre ds → RtO K G H Q (res ds) → Go K G H G { nx := fun _ H' => Q .non H', rt := Q } (slots N.length ds) t) : t { nx := fun _ H' => Q .non H', rt := Q } (start N vs) H := by
  obtain ⟨G, ds, sm, r, hp, q⟩ := h
  exact body G ds hp (fun p ws F H' e h1 h2 h3 r => q p ws F H' e h1 h2 h3 r) G H _ (sat_start sm r hN)
theorem spD_len {res : List D → D} {n : Nat} (hpre : ∀ ds, pre ds → ds.length = n) (h : SpD K pre res vs H Q X) : vs.length = n := by
  obtain ⟨G, ds, sm, r, hp, q⟩ := h
  rw [← r.length]; exact hpre ds hp
theorem spO_len {res : List D → List D} {n : Nat} (hpre : ∀ ds, pre ds → ds.length = n) (h : SpO K pre res vs H Q X) : vs.length = n := by
  obtain ⟨G, ds, sm, r, hp, q⟩ := h
  rw [← r.length]; exact hpre ds hp
end
section
variable {K : PySem.W.Frag} {G H₀ L : Hp} {ss : List Sl} {t ta tb : TE} {d : D} {ds es : List D} {i j : Int}
theorem ev_mod (a : EvB K G H₀ L ss ta (.int i)) (b : EvB K G H₀ L ss tb (.int j)) (h : 0 < j) : Ev K G H₀ L ss (tOp (rI (fun _ j => 0 < j) fun i j => .int (i % j)) ta tb) (.int (i % j)) := ev_opI (C := fun _ j => 0 < j) (g := fun i j => i % j) a b h
theorem ev_mul (a : EvB K G H₀ L ss ta (.int i)) (b : EvB K G H₀ L ss tb (.int j)) (h : CMul i j) : Ev K G H₀ L ss (tOp (rI CMul fun i j => .int (i * j)) ta tb) (.int (i * j)) := ev_opI (C := CMul) (g := fun i j => i * j) a b h
theorem ev_fdiv (a : EvB K G H₀ L ss ta (.int i)) (b : EvB K G H₀ L ss tb (.int j)) (h : CDiv i j) : Ev K G H₀ L ss (tOp (rI CDiv fun i j => .int (i / j)) ta tb) (.int (i / j)) := ev_opI (C := CDiv) (g := fun i j => i / j) a b h
theorem ev_lt (a : EvB K G H₀ L ss ta (.int i)) (b : EvB K G H₀ L ss tb (.int j)) : Ev K G H₀ L ss (tOp (rI0 fun i j => .bl (decide (i < j))) ta tb) (.bl (decide (i < j))) := ev_cmpI (g := fun i j => decide (i < j)) a b
end
theorem sIx_at (n d : Nat) {a : Int} (h : 0 ≤ a) : HT.sIx n d (some a) = min a.toNat n := by
  show (if a < 0 then (a + (n : Int)).toNat else min a.toNat n) = _
  rw [if_neg (by omega)]
theorem cutD_to (m : List D) {a : Int} (h : 0 ≤ a) : cutD m none (some a) = m.take a.toNat := by
  unfold cutD
  rw [sIx_at _ _ h, show HT.sIx m.length 0 none = 0 from rfl, List.drop_zero, Nat.sub_zero, ← List.take_eq_take_min]
theorem cutD_from (m : List D) {b : Int} (h : 0 ≤ b) : cutD m (some b) none = m.drop b.toNat := by
  unfold cutD
  rw [sIx_at _ _ h, show HT.sIx m.length m.length none = m.length from rfl, List.take_of_length_le (by rw [List.length_drop]; omega)]
  by_cases hh : b.toNat ≤ m.length
  · rw [Nat.min_eq_left hh]
  · rw [Nat.min_eq_right (by omega), List.drop_length, List.drop_eq_nil_of_le (by omega)]
end L2

set_option Elab.async false
set_option linter.all false
set_option maxRecDepth 100000
set_option maxHeartbeats 2000000
/-! comprehensions over coded lists -/
namespace L2
open PySem PySem.W PySem.Spec PyProof.Rows
theorem range_fm {α β : Type} (xs : List α) (z : α) (p : α → Bool) (f : α → β) : ((List.range xs.length).filter fun i => p (xs.getD i z)).map (fun i => f (xs.getD i z)) = (xs.filter p).map f := by
  have e : xs = (List.range xs.length).map fun i => xs.getD i z := by
    refine List.ext_getElem? fun i => ?_
    rw [List.getElem?_map]
    by_cases hi : i < xs.length
    · rw [List.getElem?_range hi, List.getElem?_eq_getElem hi]; simp [List.getD_eq_getElem?_getD, hi]
    · rw [List.getElem?_eq_none (by omega), List.getElem?_eq_none (by simp; omega)]; rfl
  conv => rhs; rw [e]
  rw [List.filter_map, List.map_map]
  rfl
section
variable {K : PySem.W.Frag} {G H₀ L : Hp} {ss : List Sl}
/-- [e for g in xs if t], xs a coded list -/
theorem evo_lcX {α : Type} (xs : List α) (enc : α → D) (p : α → Bool) (f : α → D) {tl : TE} {g : TG} {tt : TT} {te : TE} {nt : Nat} {cs : List Nat} (a : EvL K G H₀ L ss tl (xs.map enc)) (hk : GK nt g) (hc : cs.Nodup) (hz : xs.length < sizeLine)
    (hs : ∀ x ∈ xs, ∃ ss', Tg K G H₀ L g (enc x) (lcSl nt cs ss) ss' ∧ EvT K G H₀ L ss' tt (p x) ∧ (p x = true → Ev K G H₀ L ss' te (f x))) :
    EvO K G H₀ L ss (tLC nt cs (iList K tl) g tt te) ((xs.filter p).map f) := by
  cases xs with
  | nil =>
    have := evo_lcI (p := fun _ => true) (f := fun _ => .non) (tt := tt) (te := te) (evi_list a) hk hc (by simpa using hz) (fun i hi => by simp at hi)
    simpa using this
  | cons z zs =>
    have hl : ((z :: zs).map enc).length = (z :: zs).length := by simp
    have := evo_lcI (p := fun i => p ((z :: zs).getD i z)) (f := fun i => f ((z :: zs).getD i z)) (tt := tt) (te := te) (evi_list a) hk hc (by rw [hl]; exact hz) (fun i hi => by
      rw [hl] at hi
      have hm : (z :: zs).getD i z ∈ (z :: zs) := by
        rw [List.getD_eq_getElem?_getD, List.getElem?_eq_getElem hi]; exact List.getElem_mem hi
      have e : ((z :: zs).map enc).getD i .non = enc ((z :: zs).getD i z) := by
        rw [List.getD_eq_getElem?_getD, List.getElem?_map, List.getD_eq_getElem?_getD, List.getElem?_eq_getElem hi]; rfl
      rw [e]
      exact hs _ hm)
    rw [hl, range_fm] at this
    exact this
theorem evt_true : EvT K G H₀ L ss tTrue true := fun F H σ Q S q => q _ _ (Ext.refl S.ext.fh)
/-- without a test -/
theorem evo_lcM {α : Type} (xs : List α) (enc : α → D) (f : α → D) {tl : TE} {g : TG} {te : TE} {nt : Nat} {cs : List Nat} (a : EvL K G H₀ L ss tl (xs.map enc)) (hk : GK nt g) (hc : cs.Nodup) (hz : xs.length < sizeLine)
    (hs : ∀ x ∈ xs, ∃ ss', Tg K G H₀ L g (enc x) (lcSl nt cs ss) ss' ∧ Ev K G H₀ L ss' te (f x)) :
    EvO K G H₀ L ss (tLC nt cs (iList K tl) g tTrue te) (xs.map f) := by
  have := evo_lcX xs enc (fun _ => true) f a hk hc hz (tt := tTrue) (te := te) fun x hx => by
    obtain ⟨ss', h1, h2⟩ := hs x hx
    exact ⟨ss', h1, evt_true, fun _ => h2⟩
  rw [show xs.filter (fun _ => true) = xs from List.filter_eq_self.mpr (by simp)] at this
  exact this
theorem ev_joinM {α : Type} {z : List Nat} {xs : List α} {g : α → List Nat} {ta t : TE} (a : EvB K G H₀ L ss ta (.str z)) (b : EvL K G H₀ L ss t (xs.map fun x => D.str (g x))) (hz : ((xs.map g).map List.length).sum + xs.length * z.length ≤ 16777216) : Ev K G H₀ L ss (tBM K "str" (rJoin K) ta (tCons t tNil)) (.str (glue z (xs.map g))) := by
  refine ev_join a ?_ (by rw [List.length_map (f := g)]; exact hz)
  rw [List.map_map]; exact b
theorem ev_allM {α : Type} {xs : List α} {g : α → Bool} {t : TE} (b : EvL K G H₀ L ss t (xs.map fun x => D.bl (g x))) : Ev K G H₀ L ss (tCB (rAll K) (tCons t tNil)) (.bl (xs.all g)) := by
  have := ev_all (K := K) (G := G) (H₀ := H₀) (L := L) (ss := ss) (t := t) (bs := xs.map g) (by rw [List.map_map]; exact b)
  rw [List.all_map] at this
  exact this
end
theorem glue_nil : ∀ ls : List (List Nat), glue [] ls = ls.flatten
  | [] => rfl
  | [x] => by simp [glue]
  | x :: y :: r => by rw [glue, glue_nil (y :: r)]; simp
theorem glue_one {α : Type} (xs : List α) (g : α → Nat) : glue [] (xs.map fun x => [g x]) = xs.map g := by
  rw [glue_nil]
  induction xs with
  | nil => rfl
  | cons x xs ih => simp [ih]
section
variable {K : PySem.W.Frag} {G H₀ L : Hp} {ss : List Sl} {E : Ends} {ds es : List D}
end
end L2

set_option Elab.async false
set_option linter.all false
set_option maxRecDepth 100000
set_option maxHeartbeats 4000000
/-! MY OWN: the table of a set, as mathematics: places, probes, and that a probe ends -/
namespace L2T
open PySem

/-! ### searching in a rising row -/

/-! ### the slots -/

structure TOk (t : SetTable) : Prop where
  pl : t.place.toList.Pairwise (· < ·)
  du : t.dummies.toList.Pairwise (· < ·)
  ple : ∀ j ∈ t.place.toList, j ≤ t.mask
  dle : ∀ j ∈ t.dummies.toList, j ≤ t.mask
  dis : ∀ j ∈ t.dummies.toList, j ∉ t.place.toList
  pow : ∃ k, t.mask + 1 = 2 ^ (k + 3)
  big : t.mask ≤ 8191

/-! ### the leaps come to every place -/

end L2T

set_option Elab.async false
set_option linter.all false
set_option maxRecDepth 100000
set_option maxHeartbeats 4000000
/-! MY OWN: the probes of a table, one after the other -/
namespace L2T
open PySem SetTable

def advM (mask : Nat) (p : Probe) : Probe :=
  if p.more > 0 then { p with j := p.j + 1, more := p.more - 1 } else
  let (i, perturb) := leap mask p.i p.perturb
  { p with j := i, more := runEnd mask i - i, i, perturb }
def stM (mask i perturb : Nat) : Probe := { j := i, more := runEnd mask i - i, i, perturb, dummy := none }
def prM (mask : Nat) (h : Int) : Nat → Probe
  | 0 => stM mask (bits h % (mask + 1)) (bits h)
  | n + 1 => advM mask (prM mask h n)
def posM (mask : Nat) (h : Int) (n : Nat) : Nat := (prM mask h n).j

/-! ### one probe -/

/-- a slot that a search by this hash comes to -/
def Reach (t : SetTable) (h : Int) (j : Nat) : Prop := ∃ n, posM t.mask h n = j ∧ ∀ m, m < n → t.slot (posM t.mask h m) ≠ .empty

end L2T

set_option Elab.async false
set_option linter.all false
set_option maxRecDepth 100000
set_option maxHeartbeats 4000000
/-! MY OWN: a table laid anew, a slot filled, a slot given up -/
namespace L2T
open PySem SetTable

/-- the table stands for these elements -/
structure SOk {α : Type} (t : SetTable) (es : List (Int × α)) : Prop where
  ok : TOk t
  room : t.fill * 5 < t.mask * 3
  size : t.place.size = es.length
  reach : ∀ c ∈ t.place.toList.zip es, Reach t c.2.1 c.1

/-! ### laid clean -/

def lives (mask : Nat) (owner : Array (Option Nat)) : List (Nat × Nat) := (List.range (mask + 1)).filterMap fun j => (owner.getD j none).map (j, ·)

structure LInv (mask : Nat) (hs : List Int) (owner : Array (Option Nat)) : Prop where
  size : owner.size = mask + 1
  perm : ((lives mask owner).map (·.2)).Perm (List.range hs.length)
  reach : ∀ j i, owner.getD j none = some i → ∃ h, hs[i]? = some h ∧ ∃ n, posM mask h n = j ∧ ∀ q, q < n → owner.getD (posM mask h q) (some 0) ≠ none

end L2T

set_option Elab.async false
set_option linter.all false
set_option maxRecDepth 100000
set_option maxHeartbeats 4000000
/-! MY OWN: a slot filled, a slot given up, a table laid anew by its size -/
namespace L2T
open PySem SetTable

/-! ### by its size -/

/-! ### filled -/

end L2T

set_option Elab.async false
set_option linter.all false
set_option maxRecDepth 100000
set_option maxHeartbeats 4000000
/-! MY OWN: sets in the heap, by their keys: texts, whole numbers, tuples of these -/
namespace L2
open PySem PySem.Spec PyProof.Rows L2T

/-- a key of a set: flat, or a tuple of flat ones -/
inductive SK where
  | one (k : Key)
  | many (ks : List Key)
  deriving DecidableEq
def SK.flat : SK → Bool
  | .one _ => true
  | .many _ => false
section
variable (prog : Program) (w : World)
def SK.is (h : Heap) : SK → Value → Prop
  | .one k, v => (mixKind prog w).is k v = true
  | .many ks, v => ∃ a, v = .ref a ∧ IsTupleKey (mixKind prog w) h ks a
def SK.hash : SK → Int
  | .one k => (mixKind prog w).hash k
  | .many ks => tupleKeyHash (mixKind prog w) ks
/-- entries by their keys -/
inductive Es (h : Heap) : List SK → List (Int × Value) → Prop
  | nil : Es h [] []
  | cons {k : SK} {e : Int × Value} {ks : List SK} {es : List (Int × Value)} : e.1 = k.hash prog w → k.is prog w h e.2 → Es h ks es → Es h (k :: ks) (e :: es)
/-- tuples stay -/
def KeepT (h h' : Heap) : Prop := ∀ b o, o.cls = .type "tuple" → h.get? b = some o → h'.get? b = some o
def led0 : Bool := !w.params.followText "set-order"
/-- what a set's object holds -/
structure SetO (h : Heap) (o : Obj) (ks : List SK) (es : Array (Int × Value)) (ep : Nat) (t : SetTable) : Prop where
  ex : o.ExactSet
  data : o.data = .set es ep t
  tab : SOk t es.toList
  ent : Es prog w h ks es.toList
  nod : ks.Nodup
  small : ks.length ≤ 1000
  led : t.led = led0 w
  kind : ∃ f, ∀ k ∈ ks, k.flat = f
def SetE (h : Heap) (a : Addr) (ks : List SK) (es : Array (Int × Value)) : Prop := ∃ o ep t, h.get? a = some o ∧ SetO prog w h o ks es ep t
end
section
variable {prog : Program} {w : World} {h h' : Heap}
theorem SK.is_mono {k : SK} {v : Value} (K : KeepT h h') (x : k.is prog w h v) : k.is prog w h' v := by
  cases k with
  | one k => exact x
  | many ks =>
    obtain ⟨a, rfl, o, its, n, e, c, d, i⟩ := x
    exact ⟨a, rfl, o, its, n, K a o c e, c, d, i⟩
theorem Es.mono {ks : List SK} {es : List (Int × Value)} (K : KeepT h h') (x : Es prog w h ks es) : Es prog w h' ks es := by
  induction x with
  | nil => exact .nil
  | cons a b _ ih => exact .cons a (SK.is_mono K b) ih
theorem Es.length {ks : List SK} {es : List (Int × Value)} (x : Es prog w h ks es) : ks.length = es.length := by
  induction x with
  | nil => rfl
  | cons a b _ ih => simp [ih]
theorem Es.get {ks : List SK} {es : List (Int × Value)} (x : Es prog w h ks es) : ∀ (i : Nat) (e : Int × Value), es[i]? = some e → ∃ k, ks[i]? = some k ∧ e.1 = k.hash prog w ∧ k.is prog w h e.2 := by
  induction x with
  | nil => intro i e he; simp at he
  | cons a b _ ih =>
    intro i e he
    cases i with
    | zero => simp at he; subst he; exact ⟨_, rfl, a, b⟩
    | succ i => exact ih i e he
theorem Es.perm {ks : List SK} {es es' : List (Int × Value)} (x : Es prog w h ks es) (p : es'.Perm es) : ∃ ks', ks'.Perm ks ∧ Es prog w h ks' es' := by
  have p' := p.symm
  clear p
  induction p' generalizing ks with
  | nil => exact ⟨ks, .refl _, x⟩
  | cons e _ ih =>
    cases x with
    | cons a b y =>
      obtain ⟨k2, q, z⟩ := ih y
      exact ⟨_ :: k2, q.cons _, .cons a b z⟩
  | swap e f l =>
    cases x with
    | cons a b y => cases y with
      | cons c d z => exact ⟨_ :: _ :: _, List.Perm.swap _ _ _, .cons c d (.cons a b z)⟩
  | trans _ _ ih1 ih2 =>
    obtain ⟨k1, q1, z1⟩ := ih1 x
    obtain ⟨k2, q2, z2⟩ := ih2 z1
    exact ⟨k2, q2.trans q1, z2⟩
theorem SetO.mono {o : Obj} {ks : List SK} {es : Array (Int × Value)} {ep : Nat} {t : SetTable} (K : KeepT h h') (S : SetO prog w h o ks es ep t) : SetO prog w h' o ks es ep t :=
  ⟨S.ex, S.data, S.tab, S.ent.mono K, S.nod, S.small, S.led, S.kind⟩
theorem SetO.same {o o' : Obj} {ks : List SK} {es es' : Array (Int × Value)} {ep ep' : Nat} {t t' : SetTable} (S : SetO prog w h o ks es ep t) (S' : SetO prog w h o' ks es' ep' t') : es.size = es'.size := by
  have a := S.ent.length
  have b := S'.ent.length
  simp at a b; omega
end
end L2

set_option Elab.async false
set_option linter.all false
set_option maxRecDepth 100000
set_option maxHeartbeats 4000000
/-! MY OWN: a set searched -/
namespace L2
open PySem PySem.Spec PyProof.Rows L2T
section
variable {prog : Program} {w : World} {A : Around} {E : Value → Shared → Prop} {s : Shared}
end
end L2

set_option Elab.async false
set_option linter.all false
set_option maxRecDepth 100000
set_option maxHeartbeats 4000000
/-! MY OWN: a key found in a set, a key put into a set -/
namespace L2
open PySem PySem.Spec PyProof.Rows L2T
section
variable {prog : Program} {w : World} {h : Heap}
end
section
variable {prog : Program} {w : World} {A : Around} {E : Value → Shared → Prop} {s : Shared}
end
end L2

set_option Elab.async false
set_option linter.all false
set_option maxRecDepth 100000
set_option maxHeartbeats 4000000
/-! MY OWN: a key put into a set -/
namespace L2
open PySem PySem.Spec PyProof.Rows L2T
section
variable {prog : Program} {w : World} {h : Heap}
end
section
variable {prog : Program} {w : World} {A : Around} {E : Value → Shared → Prop} {s : Shared}
theorem small_fits {n : Nat} (h : n ≤ 1001) : n ≤ sizeLine := by rw [sizeLine_eq]; omega
end
end L2

set_option Elab.async false
set_option linter.all false
set_option maxRecDepth 100000
set_option maxHeartbeats 4000000
/-! MY OWN: the things of a set, one after the other -/
namespace L2
open PySem PySem.Spec PyProof.Rows L2T
section
variable {prog : Program} {w : World} {A : Around} {E : Value → Shared → Prop} {s : Shared}
/-- a set's object, without its keys -/
structure SetL (w : World) (o : Obj) (es : Array (Int × Value)) (ep : Nat) (t : SetTable) : Prop where
  data : o.data = .set es ep t
  tab : SOk t es.toList
  led : t.led = led0 w
/-- an iterator of a set -/
def SetIt (h : Heap) (I a : Addr) (first : Value) (i n ep : Nat) : Prop := ∃ o, h.get? I = some o ∧ o.cls = .type "set_iterator" ∧ o.data = .fields #[first, .int i 0, .ref a, .int n 0, .int ep 0]
theorem SetIt.typeIs {I a : Addr} {first : Value} {i n ep : Nat} (x : SetIt s.heap I a first i n ep) : s.TypeIs (.ref I) "set_iterator" := let ⟨o, ho, hc, _⟩ := x; ⟨o, ho, hc⟩
theorem SetIt.at {h h' : Heap} {I a : Addr} {first : Value} {i n ep : Nat} (x : SetIt h I a first i n ep) (k : ∀ o, h.get? I = some o → h'.get? I = some o) : SetIt h' I a first i n ep := let ⟨o, ho, r⟩ := x; ⟨o, k o ho, r⟩
theorem SetIt.field {h : Heap} {I a : Addr} {first : Value} {i n ep : Nat} (x : SetIt h I a first i n ep) (j : Nat) (v : Value) :
    ∃ o fs, h.get? I = some o ∧ o.data = .fields fs ∧ fs = #[first, .int i 0, .ref a, .int n 0, .int ep 0] ∧ ∃ o', (h.update I (Obj.mapFields (·.setIfInBounds j v))).get? I = some o' ∧ o'.cls = .type "set_iterator" ∧ o'.data = .fields (fs.setIfInBounds j v) := by
  obtain ⟨o, ho, hc, hd⟩ := x
  exact ⟨o, _, ho, hd, rfl, _, Heap.get?_update_self _ ho (Obj.isFreed_of_fields (Obj.data_mapFields hd _)), (Obj.cls_mapFields ..).trans hc, by rw [Obj.data_mapFields hd]⟩

end
end L2

set_option Elab.async false
set_option linter.all false
set_option maxRecDepth 100000
set_option maxHeartbeats 4000000
/-! MY OWN: a set walked through -/
namespace L2
open PySem PySem.Spec PyProof.Rows L2T
section
variable {prog : Program} {w : World} {A : Around} {E : Value → Shared → Prop} {s : Shared}
end
end L2

set_option Elab.async false
set_option linter.all false
set_option maxRecDepth 100000
set_option maxHeartbeats 4000000
/-! MY OWN: walks through sets; all things of a set -/
namespace L2
open PySem PySem.Spec PyProof.Rows L2T
def Keeps' (h h' : Heap) : Prop := ∀ b o, h.get? b = some o → h'.get? b = some o
theorem Keeps'.T {h h' : Heap} (k : Keeps' h h') : KeepT h h' := fun b o _ e => k b o e
section
variable {prog : Program} {w : World} {A : Around} {E : Value → Shared → Prop} {s : Shared}
end
end L2

set_option Elab.async false
set_option linter.all false
set_option maxRecDepth 100000
set_option maxHeartbeats 4000000
/-! MY OWN: a set of a list's things -/
namespace L2
open PySem PySem.Spec PyProof.Rows L2T
section
variable {prog : Program} {w : World} {A : Around} {E : Value → Shared → Prop} {s : Shared}
/-- what a set holds of the first things of a list -/
structure Part (prog : Program) (w : World) (k0 : List SK) (items : Array Value) (i : Nat) (ks : List SK) (es : Array (Int × Value)) : Prop where
  mem : ∀ k, k ∈ ks ↔ ∃ j : Nat, j < i ∧ k0[j]? = some k
  len : ks.length ≤ i
  ent : ∀ e ∈ es.toList, ∃ j : Nat, items[j]? = some e.2
end
end L2

set_option Elab.async false
set_option linter.all false
set_option maxRecDepth 100000
set_option maxHeartbeats 4000000
/-! MY OWN: set(list) -/
namespace L2
open PySem PySem.Spec PyProof.Rows L2T
section
variable {prog : Program} {w : World} {A : Around} {E : Value → Shared → Prop} {s : Shared}
end
end L2

set_option Elab.async false
set_option linter.all false
set_option maxRecDepth 100000
set_option maxHeartbeats 4000000
/-! MY OWN: sets met, joined, lessened: what they rest on -/
namespace L2
open PySem PySem.Spec PyProof.Rows L2T
section
variable {prog : Program} {w : World} {A : Around} {E : Value → Shared → Prop} {s : Shared}
end
end L2

set_option Elab.async false
set_option linter.all false
set_option maxRecDepth 100000
set_option maxHeartbeats 4000000
/-! MY OWN: & of two sets; - of two sets, by what stays -/
namespace L2
open PySem PySem.Spec PyProof.Rows L2T
section
variable {prog : Program} {w : World} {A : Around} {E : Value → Shared → Prop} {s : Shared}
theorem SetE.mono {h h' : Heap} {a : Addr} {ks : List SK} {es : Array (Int × Value)} (x : SetE prog w h a ks es) (g : ∀ o, h.get? a = some o → h'.get? a = some o) (K : KeepT h h') : SetE prog w h' a ks es :=
  let ⟨o, ep, t, ho, S⟩ := x; ⟨o, ep, t, g o ho, S.mono K⟩
theorem SetE.typeIs {a : Addr} {ks : List SK} {es : Array (Int × Value)} (x : SetE prog w s.heap a ks es) : s.TypeIs (.ref a) "set" := let ⟨o, _, _, ho, S⟩ := x; ⟨o, ho, S.ex.1⟩
/-- what was taken over so far: of the walked things, those that pass -/
structure Took (kb : List SK) (p : SK → Bool) (es0 : List (Int × Value)) (kd : List SK) (kr : List SK) (er : Array (Int × Value)) : Prop where
  mem : ∀ k, k ∈ kr ↔ k ∈ kb ∨ (k ∈ kd ∧ p k = true)
  len : kr.length ≤ kb.length + kd.length
  ent : ∀ e ∈ er.toList, e ∈ es0
end
end L2

set_option Elab.async false
set_option linter.all false
set_option maxRecDepth 100000
set_option maxHeartbeats 4000000
/-! MY OWN: & of two sets; - of two sets, by what stays -/
namespace L2
open PySem PySem.Spec PyProof.Rows L2T
section
variable {prog : Program} {w : World} {A : Around} {E : Value → Shared → Prop} {s : Shared}
theorem Es.mem {h : Heap} {ks : List SK} {es : List (Int × Value)} (x : Es prog w h ks es) {e : Int × Value} (he : e ∈ es) : ∃ k ∈ ks, e.1 = k.hash prog w ∧ k.is prog w h e.2 := by
  obtain ⟨i, hi⟩ := List.mem_iff_getElem?.mp he
  obtain ⟨k, a, b, c⟩ := x.get i e hi
  exact ⟨k, List.mem_of_getElem? a, b, c⟩
end
end L2

set_option Elab.async false
set_option linter.all false
set_option maxRecDepth 100000
set_option maxHeartbeats 4000000
/-! MY OWN: - of two sets, by what stays; a set given room; sets poured together -/
namespace L2
open PySem PySem.Spec PyProof.Rows L2T
section
variable {prog : Program} {w : World} {A : Around} {E : Value → Shared → Prop} {s : Shared}
end
end L2

set_option Elab.async false
set_option linter.all false
set_option maxRecDepth 100000
set_option maxHeartbeats 4000000
/-! MY OWN: a set poured into another one; copies; | of two sets -/
namespace L2
open PySem PySem.Spec PyProof.Rows L2T
section
variable {prog : Program} {w : World} {A : Around} {E : Value → Shared → Prop} {s : Shared}
end
end L2

set_option Elab.async false
set_option linter.all false
set_option maxRecDepth 100000
set_option maxHeartbeats 4000000
/-! MY OWN: things taken out of a set; - of two sets -/
namespace L2
open PySem PySem.Spec PyProof.Rows L2T
section
variable {prog : Program} {w : World} {A : Around} {E : Value → Shared → Prop} {s : Shared}
end
end L2

set_option Elab.async false
set_option linter.all false
set_option maxRecDepth 100000
set_option maxHeartbeats 4000000
/-! MY OWN: &, -, | of two sets -/
namespace L2
open PySem PySem.Spec PyProof.Rows L2T
section
variable {prog : Program} {w : World} {A : Around} {E : Value → Shared → Prop} {s : Shared}
end
end L2

set_option Elab.async false
set_option linter.all false
set_option maxRecDepth 100000
set_option maxHeartbeats 4000000
/-! MY OWN: &, -, | of two sets, as operations -/
namespace L2
open PySem PySem.Spec PyProof.Rows L2T
section
variable {prog : Program} {w : World} {A : Around} {E : Value → Shared → Prop} {s : Shared}
end
end L2

set_option Elab.async false
set_option linter.all false
set_option maxRecDepth 100000
set_option maxHeartbeats 4000000
/-! MY OWN ADDITIONS to the hand layer: sets of texts, of numbers, of tuples of these -/
namespace L2
open PySem PySem.Spec PyProof.Rows L2T
def D.kk : D → Key
  | .int i => .inl i
  | .str l => .inr (T l)
  | _ => .inl 0
def D.fl : D → Bool
  | .int _ => true
  | .str _ => true
  | _ => false
/-- what a set may hold: flat things (true), or tuples of flat things (false) -/
def D.hk : Bool → D → Bool
  | true, d => d.fl
  | false, .tup ds => ds.all D.fl
  | false, _ => false
section
variable (P : Program) (w : World)
end
section
variable {X : Cx} {pins : List (Addr × Obj)} {σ : St} {H : Hp} {s : Shared}
/-- a thing of the one list or of the other, with its value -/
def Src (da : List D) (xa : List V) (db : List D) (xb : List V) (dr : List D) (xr : List V) : Prop :=
  dr.length = xr.length ∧ ∀ (i : Nat) d x, dr[i]? = some d → xr[i]? = some x → ∃ j : Nat, (da[j]? = some d ∧ xa[j]? = some x) ∨ (db[j]? = some d ∧ xb[j]? = some x)
theorem Src.mem {da db dr : List D} {xa xb xr : List V} (h : Src da xa db xb dr xr) {d : D} (hd : d ∈ dr) : d ∈ da ∨ d ∈ db := by
  obtain ⟨i, hi⟩ := List.mem_iff_getElem?.mp hd
  have hil := (List.getElem?_eq_some_iff.mp hi).1
  obtain ⟨j, ⟨h1, _⟩ | ⟨h1, _⟩⟩ := h.2 i d (xr[i]'(by have := h.1; omega)) hi (List.getElem?_eq_getElem _)
  · exact .inl (List.mem_of_getElem? h1)
  · exact .inr (List.mem_of_getElem? h1)
end
end L2

set_option Elab.async false
set_option linter.all false
set_option maxRecDepth 100000
set_option maxHeartbeats 4000000
/-! sets as rules of the layer -/
namespace L2
open PySem PySem.Spec PyProof.Rows L2T
section
variable (P : Program) (w : World) (K : PySem.W.Frag)
end
section
variable {X : Cx}
end
end L2

set_option Elab.async false
set_option linter.all false
set_option maxRecDepth 100000
set_option maxHeartbeats 4000000
/-! sorted(a set) -/
namespace L2
open PySem PySem.W PyProof.Rows L2T
section
variable {prog : Program} {w : World} {A : Around} {E : Value → Shared → Prop} {s : Shared}
end
end L2

set_option Elab.async false
set_option linter.all false
set_option maxRecDepth 100000
set_option maxHeartbeats 4000000
/-! sets as rules of the layer: sorted; the judgement for sets -/
namespace L2
open PySem PySem.W PyProof.Rows L2T
section
variable (P : Program) (w : World) (K : PySem.W.Frag)
end
theorem Alike.perm {ds es : List D} (h : Alike ds) (p : es.Perm ds) : Alike es := by
  rcases h with h | h | ⟨t, ts, h⟩
  · exact .inl fun d hd => h d (p.mem_iff.mp hd)
  · exact .inr (.inl fun d hd => h d (p.mem_iff.mp hd))
  · exact .inr (.inr ⟨t, ts, fun d hd => h d (p.mem_iff.mp hd)⟩)
theorem Src.refl {ds : List D} {xs : List V} (h : ds.length = xs.length) : Src ds xs [] [] ds xs := ⟨h, fun i d x h1 h2 => ⟨i, .inl ⟨h1, h2⟩⟩⟩
section
variable {X : Cx}
end
end L2

set_option Elab.async false
set_option linter.all false
set_option maxRecDepth 100000
set_option maxHeartbeats 4000000
/-! the judgement for sets -/
namespace L2
open PySem PySem.W PyProof.Rows L2T
section
variable {P : Program} {w : World} {K : PySem.W.Frag} {G H₀ L : Hp} {ss : List Sl} {t ta tb : TE} {f : Bool} {ds da db dr : List D}
end
end L2

set_option Elab.async false
set_option linter.all false
set_option maxRecDepth 100000
set_option maxHeartbeats 4000000
/-! lists joined; names of the file's top -/
namespace L2
open PySem PySem.W PyProof.Rows L2T
section
variable {K : PySem.W.Frag} {G H₀ L : Hp} {ss : List Sl} {ta tb : TE} {da db : List D}
/-- a name of the file's top: a thing that stands there from the first on -/
theorem ev_const {d : D} {v : V} (r : ∀ H, Rep K H d v) : Ev K G H₀ L ss (tC v) d := fun F H σ Q S q => q _ _ _ (Ext.refl S.ext.fh) (r _)
end
/-- texts that stand in a row -/
theorem reps_strs {K : PySem.W.Frag} {H : Hp} : ∀ (ls : List (List Nat)), (∀ l ∈ ls, ∀ c ∈ l, c < 128) → Reps K H (ls.map .str) (ls.map fun l => .str (T l))
  | [], _ => Reps.nil
  | l :: ls, h => Reps.cons (Rep.str (h l List.mem_cons_self)) (reps_strs ls fun l' hl => h l' (List.mem_cons_of_mem _ hl))
theorem valsT_strs : ∀ {ls : List (List Nat)} {us : List Value}, ls.length = us.length → (∀ (i : Nat) (l : List Nat) (u : Value), ls[i]? = some l → us[i]? = some u → ∃ t, u = .str (T l) t) → Vals (ls.map fun l => V.str (T l)) us
  | [], us, hl, _ => by cases us with
    | nil => exact .nil
    | cons _ _ => simp at hl
  | l :: ls, us, hl, h => by cases us with
    | nil => simp at hl
    | cons u us => exact .cons (h 0 l u rfl rfl) (valsT_strs (by simpa using hl) fun i l' u' h1 h2 => h (i + 1) l' u' h1 h2)
/-- a tuple of texts of the file's top -/
def TupK (K : PySem.W.Frag) (a : Addr) (ls : List (List Nat)) : Prop := ∀ H, Rep K H (.tup (ls.map .str)) (.ref a)
theorem tupK_of {K : PySem.W.Frag} {a : Addr} {o : Obj} {its : Array Value} {n : Nat} {ls : List (List Nat)} (hk : K.lookup a = some o) (hc : o.cls = .type "tuple") (hd : o.data = .seq its n) (hl : ls.length = its.size) (hs : ls.length ≤ 1000) (ha : ∀ l ∈ ls, ∀ c ∈ l, c < 128)
    (h : ∀ (i : Nat) (l : List Nat) (u : Value), ls[i]? = some l → its.toList[i]? = some u → ∃ t, u = .str (T l) t) : TupK K a ls := fun H =>
  Rep.tup (.inr ⟨o, its, n, hk, hc, hd, by rw [← hl]; exact small_fits (by omega), valsT_strs (by simpa using hl) h⟩) (reps_strs ls ha)
end L2

set_option Elab.async false
set_option linter.all false
set_option maxRecDepth 100000
set_option maxHeartbeats 4000000
/-! a list of ours handed to a def whose answer holds no list -/
namespace L2
open PySem PySem.W PyProof.Rows L2T
section
variable {K : PySem.W.Frag}
end
section
variable {K : PySem.W.Frag} {G H₀ L : Hp} {ss : List Sl} {i : Nat} {ta : TE} {t : TA} {d : D} {ds : List D} {pre : List D → Prop} {E : XK}
end
end L2

set_option Elab.async false
set_option linter.all false
set_option maxRecDepth 100000
set_option maxHeartbeats 4000000
/-! lists of lists of ours -/
namespace L2
open PySem PySem.W PyProof.Rows L2T
section
variable {K : PySem.W.Frag} {G H₀ L : Hp} {ss : List Sl} {i : Nat} {ta tk t1 : TE} {t : TA} {d : D} {ds : List D} {dss : List (List D)}
end
end L2

set_option Elab.async false
set_option linter.all false
set_option maxRecDepth 100000
set_option maxHeartbeats 4000000
/-! a letter made great -/
namespace L2
open PySem PySem.W PyProof.Rows L2T
section
variable {K : PySem.W.Frag} {G H₀ L : Hp} {ss : List Sl} {ta : TE}
end
end L2

set_option Elab.async false
set_option linter.all false
set_option maxRecDepth 100000
set_option maxHeartbeats 4000000
/-! a promise that tells of its answer only what it is like -/
namespace L2
open PySem PySem.W PySem.Spec PyProof.Rows
section
variable {K : PySem.W.Frag} {H : Hp} {vs : List V} {Q : VK} {X : XK} {N : List Str} {t : TS} {pre : List D → Prop} {R : List D → List D → Prop}
end
section
variable {K : PySem.W.Frag} {G H₀ L : Hp} {ss : List Sl} {t : TA} {ds : List D} {pre : List D → Prop} {R : List D → List D → Prop} {E : XK} {D0 : Ends}
end
end L2

set_option Elab.async false
set_option linter.all false
set_option maxRecDepth 100000
set_option maxHeartbeats 4000000
/-! a list taken apart into names -/
namespace L2
open PySem PySem.W PySem.Spec PyProof.Rows
section
variable {prog : Program} {w : World} {A : Around} {E : Value → Shared → Prop} {s : Shared}
end
section
variable {K : PySem.W.Frag} {G H₀ L : Hp} {ss ss' : List Sl} {t : TA} {ds r0 : List D} {pre : List D → Prop} {R : List D → List D → Prop} {E : XK} {D0 : Ends}
end
end L2

set_option Elab.async false
set_option linter.all false
set_option maxRecDepth 100000
set_option maxHeartbeats 4000000
/-! comprehensions of new lists, over range; list(reversed(x)); max of two whole numbers -/
namespace L2
open PySem PySem.W PyProof.Rows L2T
section
variable {K : PySem.W.Frag} {G H₀ L : Hp} {ss : List Sl} {ta tb t : TE}
theorem ev_maxI {i j : Int} (a : EvB K G H₀ L ss ta (.int i)) (b : EvB K G H₀ L ss tb (.int j)) : Ev K G H₀ L ss (tCB (fun xs H Q => ∃ i j, xs = [.int i, .int j] ∧ Q (.int (if j > i then j else i)) H) (tCons ta (tCons tb tNil))) (.int (if j > i then j else i)) := fun F H σ Q S q =>
  a F H σ _ S fun v F1 H1 e1 r1 => b F1 H1 σ _ (S.ext2 e1) fun v2 F2 H2 e2 r2 => by
    rw [r1.of_int, r2.of_int]
    exact ⟨i, j, rfl, q _ F2 H2 (e1.trans e2) Rep.int⟩
theorem ev_minI {i j : Int} (a : EvB K G H₀ L ss ta (.int i)) (b : EvB K G H₀ L ss tb (.int j)) : Ev K G H₀ L ss (tCB (fun xs H Q => ∃ i j, xs = [.int i, .int j] ∧ Q (.int (if j < i then j else i)) H) (tCons ta (tCons tb tNil))) (.int (if j < i then j else i)) := fun F H σ Q S q =>
  a F H σ _ S fun v F1 H1 e1 r1 => b F1 H1 σ _ (S.ext2 e1) fun v2 F2 H2 e2 r2 => by
    rw [r1.of_int, r2.of_int]
    exact ⟨i, j, rfl, q _ F2 H2 (e1.trans e2) Rep.int⟩
end
end L2

set_option Elab.async false
set_option linter.all false
set_option maxRecDepth 100000
set_option maxHeartbeats 4000000
/-! promises of frozen answers that tell only what they are like; whole numbers; range from .. to .. -/
namespace L2
open PySem PySem.W PySem.Spec PyProof.Rows
def SpRD (K : PySem.W.Frag) (pre : List D → Prop) (R : List D → D → Prop) : Sp := fun vs H Q _ => ∃ G ds, Same G H ∧ Reps K G ds vs ∧ pre ds ∧ ∀ r, R ds r → ∀ v G' H', Ext G H G' H' → Rep K G' r v → Q v H'
section
variable {K : PySem.W.Frag} {H : Hp} {vs : List V} {Q : VK} {X : XK} {N : List Str} {t : TS} {pre : List D → Prop} {R : List D → D → Prop}
theorem go_spRD (h : SpRD K pre R vs H Q X) (hN : vs.length ≤ N.length) (body : ∀ G ds, pre ds → (∀ r, R ds r → RtD K G H Q r) → Go K G H G { nx := fun _ H' => Q .non H', rt := Q } (slots N.length ds) t) : t { nx := fun _ H' => Q .non H', rt := Q } (start N vs) H := by
  obtain ⟨G, ds, sm, r, hp, q⟩ := h
  exact body G ds hp (fun rs hR v F H' e r => q rs hR v F H' e r) G H _ (sat_start sm r hN)
theorem spRD_len {n : Nat} (hpre : ∀ ds, pre ds → ds.length = n) (h : SpRD K pre R vs H Q X) : vs.length = n := by
  obtain ⟨G, ds, sm, r, hp, q⟩ := h
  rw [← r.length]; exact hpre ds hp
end
section
variable {K : PySem.W.Frag} {G H₀ L : Hp} {ss : List Sl} {t : TA} {ds : List D} {pre : List D → Prop} {R : List D → D → Prop} {E : XK} {D0 : Ends} {ta tb te : TE} {i j : Int}
/-- g = f(..) -/
theorem go_asgRD {g : TG} (a : EvAF K G H₀ L ss t ds) (hp : pre ds) (h : ∀ r, R ds r → ∃ ss', Tg K G H₀ L g r ss ss' ∧ Nx K G H₀ L D0.nx ss') : Go K G H₀ L D0 ss (tAsg (tCall (SpRD K pre R) [] E t) g) := fun F H σ S =>
  a F H σ _ S fun vs F1 H1 e1 r1 => ⟨F1, ds, e1.fh, by rw [List.append_nil]; exact r1, hp, fun r hR v G' H' e2 rr => by
    obtain ⟨ss', tg, nx⟩ := h r hR
    exact tg _ H' σ _ _ (S.ext2 (e1.trans e2)) rr fun σ' S' => nx _ H' σ' S'⟩
theorem ev_neg (a : EvB K G H₀ L ss te (.int i)) : Ev K G H₀ L ss (tUn (rU fun i => .int (-i)) te) (.int (-i)) := fun F H σ Q S q =>
  a F H σ _ S fun v F1 H1 e1 r1 => ⟨i, by rw [r1.of_int], q _ _ _ e1 Rep.int⟩
end
end L2

set_option Elab.async false
set_option linter.all false
set_option maxRecDepth 100000
set_option maxHeartbeats 4000000
/-! split at blanks, a few times -/
namespace L2
open PySem PySem.W PySem.Spec PyProof.Rows PySem.Builtin PySem.Builtin.Str PySem.StrLaws
def posL (z : Nat) : Nat → List Nat → List Nat
  | _, [] => []
  | a, x :: l => if x = z then a :: posL z (a + 1) l else posL z (a + 1) l
theorem sub_one (pre l : List Nat) (z : Nat) : subAt (T (pre ++ l)) (T [z]) pre.length = decide (l.head? = some z) := by
  rw [Bool.eq_iff_iff, decide_eq_true_eq]
  have h := subAt_one (T (pre ++ l)) z pre.length
  have e : (⟨#[z]⟩ : Str) = T [z] := rfl
  rw [e] at h
  have hc : (T (pre ++ l)).cps.toList = pre ++ l := T_cps _
  rw [hc] at h
  have hl : (T (pre ++ l)).length = pre.length + l.length := by rw [T_len, List.length_append]
  have hz : (T [z]).length = 1 := T_len _
  have hg : (pre ++ l)[pre.length]? = l.head? := by
    rw [List.getElem?_append_right (Nat.le_refl _), Nat.sub_self]; cases l <;> rfl
  rw [hg, hl, hz] at h
  constructor
  · intro hs
    by_cases hl0 : l = []
    · subst hl0
      exfalso
      unfold subAt at hs
      simp [T, Str.length] at hs
    · have : 1 ≤ l.length := by cases l with | nil => exact absurd rfl hl0 | cons _ _ => simp
      exact h.mp ⟨by omega, hs⟩
  · intro hs
    exact (h.mpr hs).2
theorem occ_scan (z : Nat) (n : Nat) : ∀ (l pre : List Nat) (free : Nat) (acc : Array Nat), free ≤ pre.length →
    (forIn (List.range' pre.length (l.length + 1)) (acc, free) (occBody (T (pre ++ l)) (T [z]) (pre.length + l.length) n)).run.fst.toList = acc.toList ++ (posL z pre.length l).take (n - acc.size)
  | [], pre, free, acc, hf => by
    rw [List.length_nil, Nat.zero_add, List.range'_succ, List.range'_zero, List.forIn_cons]
    unfold occBody
    rw [if_neg (by rintro ⟨⟨_, h⟩, _⟩; rw [T_len] at h; simp at h; omega)]
    show acc.toList = _
    simp [posL]
  | x :: l, pre, free, acc, hf => by
    rw [List.length_cons, List.range'_succ, List.forIn_cons]
    have hs := sub_one pre (x :: l) z
    have e2 : pre ++ x :: l = (pre ++ [x]) ++ l := by simp
    have e3 : pre.length + (l.length + 1) = (pre ++ [x]).length + l.length := by simp; omega
    have e4 : pre.length + 1 = (pre ++ [x]).length := by simp
    have hz : (T [z]).length = 1 := T_len _
    conv => lhs; unfold occBody
    by_cases hx : x = z
    · have hs' : subAt (T (pre ++ x :: l)) (T [z]) pre.length = true := by rw [hs]; simp [hx]
      by_cases hn : acc.size < n
      · rw [if_pos ⟨⟨⟨hn, hf⟩, by rw [hz]; omega⟩, hs'⟩]
        show (forIn (List.range' (pre.length + 1) (l.length + 1)) (acc.push pre.length, pre.length + (T [z]).length) (occBody (T (pre ++ x :: l)) (T [z]) (pre.length + (l.length + 1)) n)).run.fst.toList = _
        rw [e2, e3, e4, occ_scan z n l (pre ++ [x]) _ _ (by rw [hz]; simp)]
        rw [posL, if_pos hx, Array.toList_push, Array.size_push, ← e4]
        rw [show n - acc.size = (n - (acc.size + 1)) + 1 by omega, List.take_succ_cons, List.append_assoc]
        rfl
      · rw [if_neg (by rintro ⟨⟨⟨h, _⟩, _⟩, _⟩; exact hn h)]
        show (forIn (List.range' (pre.length + 1) (l.length + 1)) (acc, free) (occBody (T (pre ++ x :: l)) (T [z]) (pre.length + (l.length + 1)) n)).run.fst.toList = _
        rw [e2, e3, e4, occ_scan z n l (pre ++ [x]) _ _ (by simp; omega), show n - acc.size = 0 by omega]
        simp
    · have hs' : ¬ subAt (T (pre ++ x :: l)) (T [z]) pre.length = true := by rw [hs]; simp [hx]
      rw [if_neg (by rintro ⟨_, h⟩; exact hs' h)]
      show (forIn (List.range' (pre.length + 1) (l.length + 1)) (acc, free) (occBody (T (pre ++ x :: l)) (T [z]) (pre.length + (l.length + 1)) n)).run.fst.toList = _
      rw [e2, e3, e4, occ_scan z n l (pre ++ [x]) _ _ (by simp; omega), posL, if_neg hx, ← e4]
theorem occ_pos (z n : Nat) (l : List Nat) : occurrences (T l) (T [z]) 0 (T l).length n = (posL z 0 l).take n := by
  rw [occ_eq, T_len]
  have := occ_scan z n l [] 0 #[] (Nat.le_refl _)
  simpa using this
def splitN (z : Nat) : Nat → List Nat → List (List Nat)
  | 0, l => [l]
  | n + 1, l => match l.dropWhile (· != z) with
    | [] => [l]
    | _ :: b => l.takeWhile (· != z) :: splitN z n b
def cutsAt (s : Str) : Nat → List Nat → List Str
  | a, [] => [strSub s a s.length]
  | a, p :: r => strSub s a p :: cutsAt s (p + 1) r
theorem parts_cuts (s : Str) : ∀ (ps : List Nat) (a : Nat), (((a :: ps.map (· + 1)).zip (ps ++ [s.length])).map fun (i, j) => strSub s i j) = cutsAt s a ps
  | [], a => rfl
  | p :: r, a => by
    show strSub s a p :: _ = strSub s a p :: _
    rw [← parts_cuts s r (p + 1)]
    rfl
theorem sub_mid (a b c : List Nat) : strSub (T (a ++ b ++ c)) a.length (a.length + b.length) = T b := by
  unfold strSub T
  congr 1
  apply Array.toList_inj.mp
  simp [List.take_append]
theorem pos_none {z : Nat} : ∀ {l : List Nat} (a : Nat), z ∉ l → posL z a l = []
  | [], _, _ => rfl
  | x :: l, a, h => by
    rw [posL, if_neg (fun e => h (by simp [e])), pos_none _ fun h' => h (List.mem_cons_of_mem _ h')]
theorem pos_app {z : Nat} : ∀ (l b : List Nat) (a : Nat), z ∉ l → posL z a (l ++ z :: b) = (a + l.length) :: posL z (a + l.length + 1) b
  | [], b, a, _ => by simp [posL]
  | x :: l, b, a, h => by
    rw [List.cons_append, posL, if_neg (fun e => h (by simp [e])), pos_app l b (a + 1) fun h' => h (List.mem_cons_of_mem _ h')]
    rw [List.length_cons, show a + 1 + l.length = a + (l.length + 1) by omega]
theorem drop_split {z : Nat} : ∀ l : List Nat, (l.dropWhile (· != z) = [] ∧ z ∉ l) ∨ ∃ b, l.dropWhile (· != z) = z :: b ∧ l = l.takeWhile (· != z) ++ z :: b ∧ z ∉ l.takeWhile (· != z)
  | [] => .inl ⟨rfl, by simp⟩
  | x :: l => by
    by_cases hx : x = z
    · subst hx; exact .inr ⟨l, by simp, by simp, by simp⟩
    · have e1 : (x :: l).dropWhile (· != z) = l.dropWhile (· != z) := by simp [List.dropWhile_cons, hx]
      have e2 : (x :: l).takeWhile (· != z) = x :: l.takeWhile (· != z) := by simp [List.takeWhile_cons, hx]
      rw [e1, e2]
      rcases drop_split (z := z) l with ⟨h1, h2⟩ | ⟨b, h1, h2, h3⟩
      · exact .inl ⟨h1, by simp [h2]; exact fun e => hx e.symm⟩
      · refine .inr ⟨b, h1, by rw [List.cons_append, ← h2], ?_⟩
        simp only [List.mem_cons, not_or]
        exact ⟨fun e => hx e.symm, h3⟩
theorem cuts_split (z : Nat) : ∀ (n : Nat) (pre l : List Nat), cutsAt (T (pre ++ l)) pre.length ((posL z pre.length l).take n) = (splitN z n l).map T
  | 0, pre, l => by
    have := sub_mid pre l []
    rw [List.append_nil] at this
    show [strSub (T (pre ++ l)) pre.length (T (pre ++ l)).length] = [T l]
    rw [T_len, List.length_append, this]
  | n + 1, pre, l => by
    rcases drop_split (z := z) l with ⟨h1, h2⟩ | ⟨b, h1, h2, h3⟩
    · rw [pos_none _ h2, splitN, h1]
      have := sub_mid pre l []
      rw [List.append_nil] at this
      show [strSub (T (pre ++ l)) pre.length (T (pre ++ l)).length] = [T l]
      rw [T_len, List.length_append, this]
    · have e : splitN z (n + 1) l = l.takeWhile (· != z) :: splitN z n b := by rw [splitN, h1]
      rw [e]
      generalize l.takeWhile (· != z) = a at h2 h3
      subst h2
      rw [pos_app _ _ _ h3, List.take_succ_cons]
      show strSub _ pre.length (pre.length + a.length) :: cutsAt _ (pre.length + a.length + 1) _ = T a :: (splitN z n b).map T
      have e1 := sub_mid pre a (z :: b)
      rw [List.append_assoc] at e1
      rw [e1]
      congr 1
      have := cuts_split z n (pre ++ a ++ [z]) b
      have e2 : pre ++ a ++ [z] ++ b = pre ++ (a ++ z :: b) := by simp
      have e3 : (pre ++ a ++ [z]).length = pre.length + a.length + 1 := by simp; omega
      rw [e2, e3] at this
      exact this
theorem parts_split (z n : Nat) (l : List Nat) : partsBetween (T l) (occurrences (T l) (T [z]) 0 (T l).length n) (T [z]).length = (splitN z n l).map T := by
  have e := parts_cuts (T l) ((posL z 0 l).take n) 0
  have h := cuts_split z n [] l
  rw [occ_pos, T_len]
  unfold partsBetween
  exact e.trans h
theorem split_len_le (z : Nat) : ∀ n l, (splitN z n l).length ≤ n + 1
  | 0, l => Nat.le_refl _
  | n + 1, l => by
    unfold splitN
    split
    · simp
    · rw [List.length_cons]; have := split_len_le z n ‹_›; omega
end L2

set_option Elab.async false
set_option linter.all false
set_option maxRecDepth 100000
set_option maxHeartbeats 4000000
/-! rows: split, tuple(), chains of comparisons, ord, range with a step -/
namespace L2
open PySem PySem.W PySem.Spec PyProof.Rows PySem.Builtin PySem.Builtin.Str
def rSplit2 : V → List V → Hp → VK → Prop := fun x vs H Q => ∃ (l : List Nat) (z : Nat) (k : Int), x = .str (T l) ∧ vs = [.str (T [z]), .int k] ∧ 0 ≤ k ∧ k < 1000 ∧ z < 128 ∧ (∀ c ∈ l, c < 128) ∧ l.length ≤ sizeLine ∧ ∀ p, H p = none → Q (.ref p) (upd H p (.lst (((splitN z k.toNat l).map T).map V.str)))
theorem kind_T {l : List Nat} (h : ∀ c ∈ l, c < 128) : PySem.Builtin.Str.strKind (T l) = 1 := by
  unfold PySem.Builtin.Str.strKind
  rw [if_pos]
  rw [Array.all_eq_true_iff_forall_mem]
  intro c hc
  have : c ∈ l := by simpa [T] using hc
  have := h c this
  simp; omega
theorem mt_split2 {X : Cx} : MtR X "str.split" rSplit2 := by
  intro pins s σ H x xs v us Q I rx rs h
  obtain ⟨l, z, k, rfl, rfl, hk0, hk1, hz, hl, hlen, q⟩ := h
  obtain ⟨t, rfl⟩ := rx
  obtain ⟨u1, u2, rfl, ⟨u, rfl⟩, ⟨u', rfl⟩⟩ := vals2 rs
  have hk : (decide (k < -(2 ^ 63 : Int)) || decide (k ≥ 2 ^ 63)) = false := by simp; omega
  have hlim : limitOf (T l) k = k.toNat := by unfold limitOf; rw [if_neg (by omega)]
  have hpl := split_len_le z k.toNat l
  have fin : ∀ (zs : List (Str × Tok)) (m : Nat), zs.map (·.1) = (splitN z k.toNat l).map T →
      EP X pins σ Q (.ref s.heap.objs.size) { s with heap := s.heap.push { cls := .type "list", data := .seq (strValues zs).toArray }, toks := m } := fun zs m e => by
    have v1 := vals_strs zs
    rw [e] at v1
    exact ⟨.ref s.heap.objs.size, _, I.lnew v1 (by rw [List.length_map, List.length_map, sizeLine_eq]; omega), rfl, q _ I.fresh⟩
  have hp := parts_split z k.toNat l
  have k1 : PySem.Builtin.Str.strKind (T l) = 1 := kind_T hl
  have k2 : PySem.Builtin.Str.strKind (T [z]) = 1 := kind_T (by intro c hc; rw [List.mem_singleton.mp hc]; exact hz)
  cases h1 : (decide ((T l).length < (T [z]).length) || decide (PySem.Builtin.Str.strKind (T l) < PySem.Builtin.Str.strKind (T [z])))
  · cases hf : (occurrences (T l) (T [z]) 0 (T l).length (limitOf (T l) k)).isEmpty
    · refine call_meets F.slot_str_split (typeIs_str _ _ _) F.entry_str_split (F.args_str_split_3 _ _ _) (meets_str_split_sep_max (T l) (T [z]) k t u u' hk h1 (by rw [T_len]; rfl) hf (by rw [T_len]; exact hlen) (by rw [hlim, hp, List.length_map, sizeLine_eq]; omega)) ?_
      rw [strsFrom_eq]
      exact fin (numbered s.toks _) _ ((numbered_texts _ _).trans (by rw [hlim]; exact hp))
    · refine call_meets F.slot_str_split (typeIs_str _ _ _) F.entry_str_split (F.args_str_split_3 _ _ _) (meets_str_split_max_not_found (T l) (T [z]) k t u u' hk h1 (by rw [T_len]; rfl) hf) (fin [(T l, t)] s.toks ?_)
      rw [← hp, ← hlim]
      have : occurrences (T l) (T [z]) 0 (T l).length (limitOf (T l) k) = [] := List.isEmpty_iff.mp hf
      rw [this]
      have := sub_mid [] l []
      simp only [List.nil_append, List.append_nil, List.length_nil, Nat.zero_add] at this
      show [T l] = [strSub (T l) 0 (T l).length]
      rw [T_len, this]
  · refine call_meets F.slot_str_split (typeIs_str _ _ _) F.entry_str_split (F.args_str_split_3 _ _ _) (meets_str_split_max_cannot_occur (T l) (T [z]) k t u u' hk h1) (fin [(T l, t)] s.toks ?_)
    rw [k1, k2, T_len, T_len] at h1
    simp at h1
    subst h1
    cases k.toNat <;> rfl
theorem split_mem {z c : Nat} : ∀ {n : Nat} {l p : List Nat}, p ∈ splitN z n l → c ∈ p → c ∈ l
  | 0, l, p, h, hc => by rw [splitN, List.mem_singleton] at h; subst h; exact hc
  | n + 1, l, p, h, hc => by
    rcases drop_split (z := z) l with ⟨h1, h2⟩ | ⟨b, h1, h2, h3⟩
    · rw [splitN, h1] at h
      have h : p ∈ [l] := h
      rw [List.mem_singleton] at h; subst h; exact hc
    · rw [splitN, h1] at h
      have h : p ∈ l.takeWhile (· != z) :: splitN z n b := h
      rw [h2]
      rcases List.mem_cons.mp h with h | h
      · subst h; exact List.mem_append_left _ hc
      · exact List.mem_append_right _ (List.mem_cons_of_mem _ (split_mem h hc))
theorem split_three {z : Nat} {a b c : List Nat} (ha : z ∉ a) (hb : z ∉ b) : splitN z 2 (a ++ z :: (b ++ z :: c)) = [a, b, c] := by
  have tw : ∀ (x y : List Nat), z ∉ x → (x ++ z :: y).dropWhile (· != z) = z :: y ∧ (x ++ z :: y).takeWhile (· != z) = x := by
    intro x y hx
    induction x with
    | nil => simp
    | cons w x ih =>
      have hw : w ≠ z := fun e => hx (by simp [e])
      have := ih fun h => hx (List.mem_cons_of_mem _ h)
      rw [List.cons_append, List.dropWhile_cons, List.takeWhile_cons]
      simp [hw, this]
  have s1 : splitN z 2 (a ++ z :: (b ++ z :: c)) = a :: splitN z 1 (b ++ z :: c) := by
    rw [splitN, (tw a _ ha).1, (tw a _ ha).2]
  have s2 : splitN z 1 (b ++ z :: c) = b :: splitN z 0 c := by
    conv => lhs; rw [splitN, (tw b _ hb).1, (tw b _ hb).2]
  rw [s1, s2]; rfl
section
variable {K : PySem.W.Frag} {G H₀ L : Hp} {ss : List Sl} {ta tb tc t1 t2 te : TE} {ds : List D}
theorem repsT {H : Hp} : ∀ {ls : List (List Nat)}, (∀ l ∈ ls, ∀ c ∈ l, c < 128) → Reps K H (ls.map D.str) ((ls.map T).map V.str)
  | [], _ => Reps.nil
  | l :: ls, h => Reps.cons (Rep.str (h l List.mem_cons_self)) (repsT fun m hm => h m (List.mem_cons_of_mem _ hm))
theorem evo_split2 {l : List Nat} {z : Nat} {k : Int} (a : EvB K G H₀ L ss ta (.str l)) (b : EvB K G H₀ L ss t1 (.str [z])) (c : EvB K G H₀ L ss t2 (.int k)) (hk : 0 ≤ k ∧ k < 1000) (hl : l.length ≤ sizeLine) : EvO K G H₀ L ss (tBM K "str" rSplit2 ta (tCons t1 (tCons t2 tNil))) ((splitN z k.toNat l).map D.str) := fun F H σ Q S q =>
  a F H σ _ S fun v F1 H1 e1 r1 => by
    rw [r1.of_str]
    refine ⟨rfl, b F1 H1 σ _ (S.ext2 e1) fun v2 F2 H2 e2 r2 => c F2 H2 σ _ ((S.ext2 e1).ext2 e2) fun v3 F3 H3 e3 r3 => ?_⟩
    have ha := r1.asc
    have hz := r2.asc
    rw [r2.of_str, r3.of_int]
    refine ⟨l, z, k, rfl, rfl, hk.1, hk.2, hz z (by simp), ha, hl, fun p hp => ?_⟩
    have e := (e1.trans e2).trans e3
    exact q p _ F3 _ (e.newO hp) (e.hh.free hp) (e.fh.free hp) upd_same (repsT fun m hm c hc => ha c (split_mem hm hc))
theorem ev_tupleOf (a : EvL K G H₀ L ss te ds) (hz : ds.length ≤ sizeLine) : Ev K G H₀ L ss (tCB (fun xs H Q => ∃ p ys, xs = [.ref p] ∧ ((SqL K H p ys ∧ ∀ l, H l = none → Q (.ref l) (upd H l (.tup ys))) ∨ (SqT K H p ys ∧ Q (.ref p) H))) (tCons te tNil)) (.tup ds) := fun F H σ Q S q =>
  a F H σ _ S fun p vs F' H' e sq r => ⟨p, vs, rfl, .inl ⟨sq, fun l hl => by
    exact q _ _ _ (e.newF hl) (Rep.tup (SqT.of upd_same) (r.mono (Same.upd (e.fh.free hl))))⟩⟩
end
end L2

set_option Elab.async false
set_option linter.all false
set_option maxRecDepth 100000
set_option maxHeartbeats 4000000
/-! promises with an unseen thing; chains; signs; range with a step -/
namespace L2
open PySem PySem.W PySem.Spec PyProof.Rows
/-- x: an unseen thing that tells of the arguments -/
def SpG {α : Type} (K : PySem.W.Frag) (pre : α → List D → Prop) (res : α → D) : Sp := fun vs H Q _ => ∃ (G : Hp) (ds : List D) (x : α), Same G H ∧ Reps K G ds vs ∧ pre x ds ∧ ∀ v G' H', Ext G H G' H' → Rep K G' (res x) v → Q v H'
section
variable {α : Type} {K : PySem.W.Frag} {H : Hp} {vs : List V} {Q : VK} {X : XK} {N : List Str} {t : TS} {pre : α → List D → Prop} {res : α → D}
theorem go_spG (h : SpG K pre res vs H Q X) (hN : vs.length ≤ N.length) (body : ∀ G ds x, pre x ds → RtD K G H Q (res x) → Go K G H G { nx := fun _ H' => Q .non H', rt := Q } (slots N.length ds) t) : t { nx := fun _ H' => Q .non H', rt := Q } (start N vs) H := by
  obtain ⟨G, ds, x, sm, r, hp, q⟩ := h
  exact body G ds x hp (fun v F H' e r => q v F H' e r) G H _ (sat_start sm r hN)
theorem spG_len {n : Nat} (hpre : ∀ x ds, pre x ds → ds.length = n) (h : SpG K pre res vs H Q X) : vs.length = n := by
  obtain ⟨G, ds, x, sm, r, hp, q⟩ := h
  rw [← r.length]; exact hpre x ds hp
end
section
variable {X : Cx}
def rLeS : R2 := fun x y H Q => ∃ i j, x = .str i ∧ y = .str j ∧ Q (.bl (!decide (j.cps.toList < i.cps.toList))) H
theorem op_le_str : OpR X (compareOp .LtE) rLeS := by
  intro pins s σ H x y v u Q I rx ry h
  obtain ⟨i, j, rfl, rfl, q⟩ := h
  obtain ⟨t, rfl⟩ := rx
  obtain ⟨t', rfl⟩ := ry
  exact compareOp_gives (op := .LtE) (typeIs_str s i t) (typeIs_str s j t') F.slot_str_le F.entry_str_le (F.args_str_le_2 _ _) (gives_str_le i j t t') (fun e => nomatch e) (fin_bl I q rfl)
end
section
variable {α : Type} {K : PySem.W.Frag} {G H₀ L : Hp} {ss : List Sl} {ta tb tc te : TE} {t : TA} {ds : List D} {E : XK} {pre : α → List D → Prop} {res : α → D}
theorem ev_callG (x : α) (a : EvAF K G H₀ L ss t ds) (hp : pre x ds) : Ev K G H₀ L ss (tCall (SpG K pre res) [] E t) (res x) := fun F H σ Q S q =>
  a F H σ _ S fun vs F1 H1 e1 r1 => ⟨F1, ds, x, e1.fh, by rw [List.append_nil]; exact r1, hp, fun v G' H' e2 r => q _ _ _ (e1.trans e2) r⟩
theorem ev_chainI {i j k : Int} (a : EvB K G H₀ L ss ta (.int i)) (b : EvB K G H₀ L ss tb (.int j)) (c : EvB K G H₀ L ss tc (.int k)) : Ev K G H₀ L ss (tChain (rI0 fun i j => .bl (decide (i ≤ j))) (rI0 fun i j => .bl (decide (i ≤ j))) ta tb tc) (.bl (decide (i ≤ j) && decide (j ≤ k))) := fun F H σ Q S q =>
  a F H σ _ S fun v F1 H1 e1 r1 => b F1 H1 σ _ (S.ext2 e1) fun v2 F2 H2 e2 r2 => by
    rw [r1.of_int, r2.of_int]
    refine ⟨i, j, rfl, rfl, _, rfl, ?_⟩
    by_cases h : i ≤ j
    · rw [if_pos (decide_eq_true h)]
      refine c F2 H2 σ _ ((S.ext2 e1).ext2 e2) fun v3 F3 H3 e3 r3 => ?_
      rw [r3.of_int]
      refine ⟨j, k, rfl, rfl, q _ F3 H3 ((e1.trans e2).trans e3) ?_⟩
      rw [decide_eq_true h, Bool.true_and]; exact Rep.bl
    · rw [if_neg (by rw [decide_eq_false h]; decide)]
      refine q _ F2 H2 (e1.trans e2) ?_
      rw [decide_eq_false h, Bool.false_and]; exact Rep.bl
theorem ev_chainS {i j k : List Nat} (a : EvB K G H₀ L ss ta (.str i)) (b : EvB K G H₀ L ss tb (.str j)) (c : EvB K G H₀ L ss tc (.str k)) : Ev K G H₀ L ss (tChain rLeS rLeS ta tb tc) (.bl (!decide (j < i) && !decide (k < j))) := fun F H σ Q S q =>
  a F H σ _ S fun v F1 H1 e1 r1 => b F1 H1 σ _ (S.ext2 e1) fun v2 F2 H2 e2 r2 => by
    rw [r1.of_str, r2.of_str]
    refine ⟨T i, T j, rfl, rfl, _, rfl, ?_⟩
    rw [T_cps, T_cps]
    by_cases h : j < i
    · rw [if_neg (by rw [decide_eq_true h]; decide)]
      refine q _ F2 H2 (e1.trans e2) ?_
      rw [decide_eq_true h]; exact Rep.bl
    · rw [if_pos (by rw [decide_eq_false h]; rfl)]
      refine c F2 H2 σ _ ((S.ext2 e1).ext2 e2) fun v3 F3 H3 e3 r3 => ?_
      rw [r3.of_str]
      refine ⟨T j, T k, rfl, rfl, q _ F3 H3 ((e1.trans e2).trans e3) ?_⟩
      rw [decide_eq_false h, T_cps, T_cps]; exact Rep.bl
theorem ev_ord {c : Nat} (a : EvB K G H₀ L ss te (.str [c])) : Ev K G H₀ L ss (tCB (fun xs H Q => ∃ x : Str, xs = [.str x] ∧ x.length = 1 ∧ Q (.int (x.cps.getD 0 0 : Nat)) H) (tCons te tNil)) (.int c) := fun F H σ Q S q =>
  a F H σ _ S fun v F1 H1 e1 r1 => ⟨T [c], by rw [r1.of_str], T_len _, q _ _ _ e1 Rep.int⟩
theorem ev_intB {b : Bool} (a : EvB K G H₀ L ss te (.bl b)) : Ev K G H₀ L ss (tCB (fun xs H Q => (∃ i, xs = [.int i] ∧ Q (.int i) H) ∨ ∃ k : Bool, xs = [.bl k] ∧ Q (.int (if k then 1 else 0)) H) (tCons te tNil)) (.int (if b then 1 else 0)) := fun F H σ Q S q =>
  a F H σ _ S fun v F1 H1 e1 r1 => .inr ⟨b, by rw [r1.of_bl], q _ _ _ e1 Rep.int⟩
theorem ev_inS {c : Nat} {l : List Nat} (a : EvB K G H₀ L ss ta (.str [c])) (b : EvB K G H₀ L ss tb (.str l)) : Ev K G H₀ L ss (tOp (fun x y H Q => ∃ i j, x = .str i ∧ y = .str j ∧ Q (.bl (!(Builtin.Str.occurrences j i 0 j.length 1).isEmpty)) H) ta tb) (.bl (decide (c ∈ l))) := fun F H σ Q S q =>
  a F H σ _ S fun v F1 H1 e1 r1 => b F1 H1 σ _ (S.ext2 e1) fun v2 F2 H2 e2 r2 => by
    rw [r1.of_str, r2.of_str]
    refine ⟨T [c], T l, rfl, rfl, ?_⟩
    have := StrLaws.found_one (T l) c
    rw [T_cps] at this
    rw [show T [c] = ⟨#[c]⟩ from rfl, this]
    exact q _ F2 H2 (e1.trans e2) Rep.bl
end
/-! range(i, j, c) -/
def Itq (a c : Int) (n : Nat) : It := ⟨fun i _ => i < n, fun i H x H' => H' = H ∧ x = .int (a + i * c), fun i _ => n ≤ i⟩
def iRngS (c : Int) (ta : TA) : TI := fun σ H R => ta σ H fun vs H1 => ∃ i j : Int, vs = [.int i, .int j, .int c] ∧ (0 ≤ i ∧ i < 2 ^ 30 ∧ 0 ≤ j ∧ j < 2 ^ 30) ∧ R (Itq i c (Builtin.Range.rangeSize i j c).toNat) H1
theorem rsize_rng {i j c : Int} (h : 0 ≤ i ∧ i < 2 ^ 30 ∧ 0 ≤ j ∧ j < 2 ^ 30) (hc : 0 < c) : 0 ≤ Builtin.Range.rangeSize i j c ∧ Builtin.Range.rangeSize i j c < 2 ^ 31 := by
  unfold Builtin.Range.rangeSize
  rw [if_pos hc]
  split
  · have h1 : 0 ≤ (j - i - 1) / c := Int.ediv_nonneg (by omega) (by omega)
    have h2 : (j - i - 1) / c ≤ j - i - 1 := Int.ediv_le_self _ (by omega)
    omega
  · omega
theorem small_step {i j c : Int} (h : 0 ≤ i ∧ i < 2 ^ 30 ∧ 0 ≤ j ∧ j < 2 ^ 30) (hc : 0 < c) (hc2 : c < 2 ^ 30) : Builtin.Range.small i j c = true := by
  obtain ⟨h1, h2⟩ := rsize_rng h hc
  unfold Builtin.Range.small Builtin.Range.rangeFitsLong
  generalize Builtin.Range.rangeSize i j c = z at h1 h2
  rw [if_pos hc]
  simp only [Bool.and_eq_true, Bool.or_eq_true, decide_eq_true_eq, beq_iff_eq]
  omega
section
variable {X : Cx} {e1 e2 e3 : Expr} {ta : TA} {p pos : Pos} {tg : Expr}
theorem pi_rangeS {c : Int} (hc : 0 < c) (hc2 : c < 2 ^ 30) (hg : Gl X "range") (hm : X.mg "range" = none) (ha : PA X [e1, e2, e3] ta) (hs : starEach [e1, e2, e3] X.env = [(false, eval e1 X.env), (false, eval e2 X.env), (false, eval e3 X.env)] := by rfl)
    (hs2 : starEach [e2, e3] X.env = [(false, eval e2 X.env), (false, eval e3 X.env)] := by rfl) : PI X tg (.Call (.Name "range" p) [e1, e2, e3] [] pos) (iRngS c ta) := by
  intro pins s σ H R I h
  refine Call_ (ld_blt I hg hm boot_range (PyProof.Rows.callWith_type1 (thn (ha pos pins s σ H _ I h) fun us s1 ⟨vs, H1, I1, r1, q1⟩ => ?_) (by rw [hs, hs2]) (by rw [hs2]; rfl)))
  obtain ⟨i, j, rfl, hb, q⟩ := q1
  obtain ⟨u, v, w', rfl, ⟨t1, rfl⟩, ⟨t2, rfl⟩, ⟨t3, rfl⟩⟩ := vals3 r1
  refine call_range_3 (by omega) ?_ (.inl (PyProof.noPylong_small (by omega)))
  have I2 : Inv X pins σ H1 { s1 with heap := s1.heap.push { cls := .type "range", data := .fields #[.int i t1, .int j t2, .int c t3] } } := I1.kept (t' := s1.toks) fun b o e => Heap.get?_push_of_some _ e
  refine wpAny_pyIter_range (IsRange.new ..) (small_step hb hc hc2) ?_
  generalize hh2 : s1.heap.push { cls := .type "range", data := .fields #[.int i t1, .int j t2, .int c t3] } = h2 at I2
  have hsz := (rsize_rng hb hc).1
  generalize hn : (Builtin.Range.rangeSize i j c).toNat = n at q
  have hn2 : Builtin.Range.rangeSize i j c = (n : Int) := by omega
  refine ⟨h2.objs.size, [h2.objs.size], _, Itq i c n, H1, rfl, I2.kept (t' := s1.toks) fun b o e => Heap.get?_push_of_some _ e,
    turn_walk (n := n) (R := fun k v => ∃ t, v = .int (i + k * c) t) (St := fun k h => IsRangeIter h h2.objs.size (i + (k : Nat) * c) ((n : Int) - (k : Nat)) c) (fun A' hA => Walks.range hA _ i c _) (fun A' k s Q E st q => wpAny_pyIter_rangeiter st q)
      (fun k h st => ⟨_, _, _, st, rfl, rfl, by decide⟩) (fun k H g => g) (fun k H g => g) (fun k v H hk ⟨t, e⟩ => ⟨.int (i + k * c), ⟨t, e⟩, rfl, rfl⟩), ⟨Nat.zero_le _, ?_⟩, fun b hb => ?_, q⟩
  · show IsRangeIter _ _ (i + ((0 : Nat) : Int) * c) (((n : Nat) : Int) - ((0 : Nat) : Int)) c
    have e1 : i + ((0 : Nat) : Int) * c = i := by simp
    have e2 : ((n : Nat) : Int) - ((0 : Nat) : Int) = Builtin.Range.rangeSize i j c := by rw [hn2]; simp
    rw [e1, e2]
    exact Heap.get?_push_size _ rfl
  · have e : b = h2.objs.size := by simpa using hb
    subst e
    exact I2.fpOk (Nat.le_refl _) (I2.hok.fresh (Nat.le_refl _))
end
section
variable {K : PySem.W.Frag} {G H₀ L : Hp} {ss : List Sl} {D0 : Ends}
theorem go_rangeS {ta : TA} {x : Nat} {tb : TS} {m n c : Int} (I : Nat → List Sl → Prop) (a : EvA K G H₀ L ss ta [.int m, .int n, .int c]) (hb : 0 ≤ m ∧ m < 2 ^ 30 ∧ 0 ≤ n ∧ n < 2 ^ 30) (h0 : I 0 ss)
    (hs : ∀ (k : Nat) ss, k < (Builtin.Range.rangeSize m n c).toNat → I k ss → ∀ N, (∀ ss, I (k + 1) ss → Nx K G H₀ L N ss) → Go K G H₀ L { D0 with nx := N, ct := N, bk := D0.nx } (ss.set x (.d (.int (m + (k : Int) * c)))) tb)
    (hd : ∀ ss, I (Builtin.Range.rangeSize m n c).toNat ss → Nx K G H₀ L D0.nx ss) : Go K G H₀ L D0 ss (tFor (iRngS c ta) (gName x) tb) := fun F H σ S => by
  refine (a F H σ _ S fun vs F1 H1 e1 r1 => ?_)
  rw [Reps] at r1
  obtain ⟨v1, r, rfl, rx, r1⟩ := r1
  rw [Reps] at r1
  obtain ⟨v2, r, rfl, rx2, r1⟩ := r1
  rw [Reps] at r1
  obtain ⟨v3, r, rfl, rx3, r1⟩ := r1
  rw [Reps] at r1
  subst r1
  rw [rx.of_int, rx2.of_int, rx3.of_int]
  refine ⟨m, n, rfl, hb, fun i k σ' H' => k = (Builtin.Range.rangeSize m n c).toNat - i ∧ i ≤ (Builtin.Range.rangeSize m n c).toNat ∧ At K G H₀ L (I i) σ' H', ⟨_, rfl, Nat.zero_le _, ss, F1, S.ext2 e1, h0⟩, ?_⟩
  generalize (Builtin.Range.rangeSize m n c).toNat = z at hs hd
  rintro i k σ' H' ⟨rfl, hi, ss1, F2, S2, h2⟩
  by_cases hlt : i < z
  · refine .inr ⟨hlt, fun σ'' H'' => At K G H₀ L (I (i + 1)) σ'' H'', fun σ'' H'' h => ⟨z - (i + 1), by omega, rfl, hlt, h⟩, fun x H'' y => ?_⟩
    obtain ⟨rfl, rfl⟩ := y
    exact hs i ss1 hlt h2 _ (fun ss h => nx_at h) F2 _ _ (S2.setD Rep.int)
  · have e : i = z := by omega
    subst e
    exact .inl ⟨Nat.le_refl _, hd ss1 h2 F2 H' σ' S2⟩
end
/-! comprehensions over the signs of a text, over a tuple -/
section
variable {K : PySem.W.Frag} {G H₀ L : Hp} {ss : List Sl}
theorem evo_lcStr (l : List Nat) (f : Nat → D) {tl : TE} {g : TG} {te : TE} {nt : Nat} {cs : List Nat} (a : EvB K G H₀ L ss tl (.str l)) (hk : GK nt g) (hc : cs.Nodup) (hz : l.length < sizeLine)
    (hs : ∀ c ∈ l, ∃ ss', Tg K G H₀ L g (.str [c]) (lcSl nt cs ss) ss' ∧ Ev K G H₀ L ss' te (f c)) :
    EvO K G H₀ L ss (tLC nt cs (iStr tl) g tTrue te) (l.map f) := by
  have := evo_lcI (p := fun _ => true) (f := fun i => f (l.getD i 0)) (tt := tTrue) (te := te) (evi_str a) hk hc hz (fun i hi => by
    have hm : l.getD i 0 ∈ l := by rw [List.getD_eq_getElem?_getD, List.getElem?_eq_getElem hi]; exact List.getElem_mem hi
    obtain ⟨ss', h1, h2⟩ := hs _ hm
    exact ⟨ss', h1, evt_true, fun _ => h2⟩)
  have e := range_fm l 0 (fun _ => true) f
  rw [show l.filter (fun _ => true) = l from List.filter_eq_self.mpr (by simp)] at e
  rw [← e]; exact this
theorem evo_lcTup (ds : List D) (f : D → D) {tl : TE} {g : TG} {te : TE} {nt : Nat} {cs : List Nat} (a : Ev K G H₀ L ss tl (.tup ds)) (hk : GK nt g) (hc : cs.Nodup) (hz : ds.length < sizeLine)
    (hs : ∀ c ∈ ds, ∃ ss', Tg K G H₀ L g c (lcSl nt cs ss) ss' ∧ Ev K G H₀ L ss' te (f c)) :
    EvO K G H₀ L ss (tLC nt cs (iTup K tl) g tTrue te) (ds.map f) := by
  have := evo_lcI (p := fun _ => true) (f := fun i => f (ds.getD i .non)) (tt := tTrue) (te := te) (evi_tup a) hk hc hz (fun i hi => by
    have hm : ds.getD i .non ∈ ds := by rw [List.getD_eq_getElem?_getD, List.getElem?_eq_getElem hi]; exact List.getElem_mem hi
    obtain ⟨ss', h1, h2⟩ := hs _ hm
    exact ⟨ss', h1, evt_true, fun _ => h2⟩)
  have e := range_fm ds .non (fun _ => true) f
  rw [show ds.filter (fun _ => true) = ds from List.filter_eq_self.mpr (by simp)] at e
  rw [← e]; exact this
end
theorem dw_head (g : Nat → Bool) : ∀ (l : List Nat) (x : Nat), (l.dropWhile g).head? = some x → g x = false
  | [], x, h => by simp at h
  | y :: l, x, h => by
    rw [List.dropWhile_cons] at h
    cases hy : g y with
    | true => rw [hy, if_pos rfl] at h; exact dw_head g l x h
    | false =>
      rw [hy, if_neg (by decide)] at h
      simp at h; subst h; exact hy
theorem dw_keep (g : Nat → Bool) : ∀ l : List Nat, (∀ x, l.head? = some x → g x = false) → l.dropWhile g = l
  | [], _ => rfl
  | y :: l, h => by rw [List.dropWhile_cons, h y rfl, if_neg (by decide)]
theorem strip_idem (g : Nat → Bool) (l : List Nat) : stripL g (stripL g l) = stripL g l := by
  have hA := dw_head g l
  unfold stripL
  generalize l.dropWhile g = A at hA
  have hB : ((A.reverse.dropWhile g).reverse).dropWhile g = (A.reverse.dropWhile g).reverse := by
    refine dw_keep g _ fun x hx => hA x ?_
    have hp : (A.reverse.dropWhile g).reverse <+: A := by
      rw [← List.reverse_suffix, List.reverse_reverse]; exact List.dropWhile_suffix g
    obtain ⟨t, ht⟩ := hp
    rw [← ht]
    cases hq : (A.reverse.dropWhile g).reverse with
    | nil => rw [hq] at hx; simp at hx
    | cons y r => rw [hq] at hx; simpa using hx
  rw [hB, List.reverse_reverse]
  rw [dw_keep g (A.reverse.dropWhile g) (dw_head g _)]
theorem strip_mem {g : Nat → Bool} {l : List Nat} {c : Nat} (h : c ∈ stripL g l) : c ∈ l := by
  unfold stripL at h
  exact (List.dropWhile_sublist _).subset (List.mem_reverse.mp ((List.dropWhile_sublist _).subset (List.mem_reverse.mp h)))
theorem strip_len (g : Nat → Bool) (l : List Nat) : (stripL g l).length ≤ l.length := by
  unfold stripL
  rw [List.length_reverse]
  have h1 := (List.dropWhile_sublist g (l := (l.dropWhile g).reverse)).length_le
  have h2 := (List.dropWhile_sublist g (l := l)).length_le
  rw [List.length_reverse] at h1
  omega
end L2

set_option Elab.async false
set_option linter.all false
set_option maxRecDepth 100000
set_option maxHeartbeats 8000000
namespace My
open PySem L2 PyProof.Rows
def top (i : Nat) : Stmt := PySem.Challenge.pw_folk_k09_rows_of_facts.main.body.getD i (.Pass ⟨0, 0, 0, 0⟩)
abbrev s_is_name : Stmt := top 10
theorem sc_is_name : FnScope ["text"] ["text"] (defScope s_is_name) := ⟨rfl, rfl, rfl, by decide +kernel, rfl, by decide +kernel, by decide +kernel⟩
abbrev s_is_sign : Stmt := top 11
theorem sc_is_sign : FnScope ["sign"] ["sign"] (defScope s_is_sign) := ⟨rfl, rfl, rfl, by decide +kernel, rfl, by decide +kernel, by decide +kernel⟩
abbrev s_is_text : Stmt := top 12
theorem sc_is_text : FnScope ["text"] ["text"] (defScope s_is_text) := ⟨rfl, rfl, rfl, by decide +kernel, rfl, by decide +kernel, by decide +kernel⟩
abbrev s_pair_fact : Stmt := top 13
theorem sc_pair_fact : FnScope ["one", "field", "other"] ["one", "field", "other"] (defScope s_pair_fact) := ⟨rfl, rfl, rfl, by decide +kernel, rfl, by decide +kernel, by decide +kernel⟩
abbrev s_fact_of : Stmt := top 15
theorem sc_fact_of : FnScope ["row", "words"] ["row"] (defScope s_fact_of) := ⟨rfl, rfl, rfl, by decide +kernel, rfl, by decide +kernel, by decide +kernel⟩
abbrev s_law_cell_at : Stmt := top 17
theorem sc_law_cell_at : FnScope ["_law_script", "_law_k"] ["_law_script", "_law_k"] (defScope s_law_cell_at) := ⟨rfl, rfl, rfl, by decide +kernel, rfl, by decide +kernel, by decide +kernel⟩
abbrev s_law_stream : Stmt := top 18
theorem sc_law_stream : FnScope ["_law_cell", "_law_many", "_law_found", "_law_number", "_law_k"] ["_law_cell", "_law_many"] (defScope s_law_stream) := ⟨rfl, rfl, rfl, by decide +kernel, rfl, by decide +kernel, by decide +kernel⟩
abbrev s_law_name : Stmt := top 19
theorem sc_law_name : FnScope ["_law_cell", "_law_letters"] ["_law_cell"] (defScope s_law_name) := ⟨rfl, rfl, rfl, by decide +kernel, rfl, by decide +kernel, by decide +kernel⟩
abbrev s_law_text : Stmt := top 20
theorem sc_law_text : FnScope ["_law_cell", "_law_signs", "_law_draws", "_law_text_here"] ["_law_cell"] (defScope s_law_text) := ⟨rfl, rfl, rfl, by decide +kernel, rfl, by decide +kernel, by decide +kernel⟩
abbrev s_law_good : Stmt := top 21
theorem sc_law_good : FnScope ["_law_found", "_law_due"] ["_law_found", "_law_due"] (defScope s_law_good) := ⟨rfl, rfl, rfl, by decide +kernel, rfl, by decide +kernel, by decide +kernel⟩
abbrev s_law : Stmt := top 22
theorem sc_law : FnScope ["_law_script", "_law_k", "_law_card", "_law_cell", "_law_more", "_law_field", "_law_text_here", "_law_due"] ["_law_script"] (defScope s_law) := ⟨rfl, rfl, rfl, by decide +kernel, rfl, by decide +kernel, by decide +kernel⟩
structure Tx (K : PySem.W.Frag) (mg : Str → Option Value) (k_FIELDS k_PAIR_FIELDS : Addr) (u_LETTERS u_LONGEST_NAME u_LONGEST_TEXT u_NO_SIGN : Value) (f_is_name f_is_sign f_is_text f_pair_fact f_fact_of f_law_cell_at f_law_stream f_law_name f_law_text f_law_good f_law : Addr) (d_is_name d_is_sign d_is_text d_pair_fact d_fact_of d_law_cell_at d_law_stream d_law_name d_law_text d_law_good d_law : FuncData) : Prop where
  M_FIELDS : mg "FIELDS" = some (.ref k_FIELDS)
  K_FIELDS : TupK K k_FIELDS [[110, 97, 109, 101], [102, 111, 114, 109, 101, 114], [119, 97, 121], [100, 97, 121], [109, 97, 114, 107]]
  M_PAIR_FIELDS : mg "PAIR_FIELDS" = some (.ref k_PAIR_FIELDS)
  K_PAIR_FIELDS : TupK K k_PAIR_FIELDS [[115, 97, 109, 101], [97, 112, 97, 114, 116]]
  M_LETTERS : mg "LETTERS" = some u_LETTERS
  R_LETTERS : RelV (.str (T [97, 98, 99, 100, 101, 102, 103, 104, 105, 106, 107, 108, 109, 110, 111, 112, 113, 114, 115, 116, 117, 118, 119, 120, 121, 122])) u_LETTERS
  M_LONGEST_NAME : mg "LONGEST_NAME" = some u_LONGEST_NAME
  R_LONGEST_NAME : RelV (.int 12) u_LONGEST_NAME
  M_LONGEST_TEXT : mg "LONGEST_TEXT" = some u_LONGEST_TEXT
  R_LONGEST_TEXT : RelV (.int 40) u_LONGEST_TEXT
  M_NO_SIGN : mg "NO_SIGN" = some u_NO_SIGN
  R_NO_SIGN : RelV (.int 37) u_NO_SIGN
  F_is_name : Fun K "is_name" "is_name" s_is_name f_is_name d_is_name
  B_is_name : Binds K d_is_name ["text"] []
  M_is_name : mg "is_name" = some (.ref f_is_name)
  F_is_sign : Fun K "is_sign" "is_sign" s_is_sign f_is_sign d_is_sign
  B_is_sign : Binds K d_is_sign ["sign"] []
  M_is_sign : mg "is_sign" = some (.ref f_is_sign)
  F_is_text : Fun K "is_text" "is_text" s_is_text f_is_text d_is_text
  B_is_text : Binds K d_is_text ["text"] []
  M_is_text : mg "is_text" = some (.ref f_is_text)
  F_pair_fact : Fun K "pair_fact" "pair_fact" s_pair_fact f_pair_fact d_pair_fact
  B_pair_fact : Binds K d_pair_fact ["one", "field", "other"] []
  M_pair_fact : mg "pair_fact" = some (.ref f_pair_fact)
  F_fact_of : Fun K "fact_of" "fact_of" s_fact_of f_fact_of d_fact_of
  B_fact_of : Binds K d_fact_of ["row"] []
  M_fact_of : mg "fact_of" = some (.ref f_fact_of)
  F_law_cell_at : Fun K "_law_cell_at" "_law_cell_at" s_law_cell_at f_law_cell_at d_law_cell_at
  B_law_cell_at : Binds K d_law_cell_at ["_law_script", "_law_k"] []
  M_law_cell_at : mg "_law_cell_at" = some (.ref f_law_cell_at)
  F_law_stream : Fun K "_law_stream" "_law_stream" s_law_stream f_law_stream d_law_stream
  B_law_stream : Binds K d_law_stream ["_law_cell", "_law_many"] []
  M_law_stream : mg "_law_stream" = some (.ref f_law_stream)
  F_law_name : Fun K "_law_name" "_law_name" s_law_name f_law_name d_law_name
  B_law_name : Binds K d_law_name ["_law_cell"] []
  M_law_name : mg "_law_name" = some (.ref f_law_name)
  F_law_text : Fun K "_law_text" "_law_text" s_law_text f_law_text d_law_text
  B_law_text : Binds K d_law_text ["_law_cell"] []
  M_law_text : mg "_law_text" = some (.ref f_law_text)
  F_law_good : Fun K "_law_good" "_law_good" s_law_good f_law_good d_law_good
  B_law_good : Binds K d_law_good ["_law_found", "_law_due"] []
  M_law_good : mg "_law_good" = some (.ref f_law_good)
  F_law : Fun K "law" "law" s_law f_law d_law
  B_law : Binds K d_law ["_law_script"] []
  M_law : mg "law" = some (.ref f_law)
  z_all : mg "all" = none
  z_int : mg "int" = none
  z_isinstance : mg "isinstance" = none
  z_len : mg "len" = none
  z_max : mg "max" = none
  z_min : mg "min" = none
  z_ord : mg "ord" = none
  z_range : mg "range" = none
  z_str : mg "str" = none
  z_tuple : mg "tuple" = none
section
variable {P : Program} {w : World} {K : PySem.W.Frag} {mg : Str → Option Value} {base : Heap} {k_FIELDS k_PAIR_FIELDS : Addr} {u_LETTERS u_LONGEST_NAME u_LONGEST_TEXT u_NO_SIGN : Value} {f_is_name f_is_sign f_is_text f_pair_fact f_fact_of f_law_cell_at f_law_stream f_law_name f_law_text f_law_good f_law : Addr} {d_is_name d_is_sign d_is_text d_pair_fact d_fact_of d_law_cell_at d_law_stream d_law_name d_law_text d_law_good d_law : FuncData}
def preCell (ds : List D) : Prop := ∃ (ns : List Int) (k : Int), ds = [.lst (ns.map .int), .int k] ∧ 0 ≤ k
def resCell : List D → D
  | [.lst xs, .int k] => xs.getD k.toNat (.int 0)
  | _ => .non
theorem ok_law_cell_at (Z : Tx K mg k_FIELDS k_PAIR_FIELDS u_LETTERS u_LONGEST_NAME u_LONGEST_TEXT u_NO_SIGN f_is_name f_is_sign f_is_text f_pair_fact f_fact_of f_law_cell_at f_law_stream f_law_name f_law_text f_law_good f_law d_is_name d_is_sign d_is_text d_pair_fact d_fact_of d_law_cell_at d_law_stream d_law_name d_law_text d_law_good d_law) : FnOk P w K mg base CX0 1 f_law_cell_at d_law_cell_at ["_law_script", "_law_k"] (SpD K preCell resCell) := by
  refine Z.F_law_cell_at.ok sc_law_cell_at (fun vs H Q E h => spD_len (n := 2) (by rintro ds ⟨ns, k, rfl, _⟩; rfl) h) (fun cdv A outer s H vs Q E hr h => ⟨_, (pss_cons (ps_if (pt_cmpR op_lt (pv 1) (pe_callB call_len_seq (by rfl) Z.z_len boot_len (pa_cons (pv 0) pa_nil)) (nomark _)) (pss_one (ps_ret (pe_ix (show IxR _ (rIxL K) from ix_list) (pv 0) (pv 1) (fun _ _ => rfl)))) pss_nil)
      (pss_one (ps_ret pe_int))), ?_⟩)
  refine go_spD h (by rw [spD_len (n := 2) (by rintro ds ⟨ns, k, rfl, _⟩; rfl) h]; decide) fun G ds hp rt => ?_
  obtain ⟨ns, k, rfl, hk⟩ := hp
  have ll : (ns.map D.int).length = ns.length := by simp
  refine go_seq (go_if (evt_test (ev_cmpI (g := fun i j => decide (i < j)) (ev_var rfl).b (ev_lenL (ev_var rfl).l).b)) (fun hb => ?_) (fun hb => ?_))
  · simp only [decide_eq_true_eq] at hb
    have hk2 : k.toNat < ns.length := by omega
    refine go_ret (ev_ixL (d := .int (ns.getD k.toNat 0)) (ev_var rfl).l (ev_var rfl).b ?_) ?_
    · have := atI_nat (xs := ns.map D.int) (j := k.toNat) (v := D.int (ns.getD k.toNat 0)) (by rw [List.getElem?_map, List.getD_eq_getElem?_getD]; simp [hk2])
      rw [show ((k.toNat : Nat) : Int) = k by omega] at this
      exact this
    · have e : resCell [D.lst (ns.map D.int), D.int k] = .int (ns.getD k.toNat 0) := by
        simp [resCell, List.getD_eq_getElem?_getD, List.getElem?_map, hk2]
      rw [e] at rt; exact rt
  · simp only [decide_eq_false_iff_not] at hb
    have e : resCell [D.lst (ns.map D.int), D.int k] = .int 0 := by
      simp [resCell, List.getD_eq_getElem?_getD, List.getElem?_map, show ns[k.toNat]? = none from List.getElem?_eq_none (by omega)]
    rw [e] at rt
    refine go_next ?_
    ((try dsimp only); refine nx_go ?_)
    exact go_ret ev_int rt
def M : Int := 4294967311
def num (c : Int) : Nat → Int
  | 0 => c % M + 48271
  | k + 1 => (num c k * num c k + 69621 * num c k + k) % M
theorem num_rng (c : Int) : ∀ k, 0 ≤ num c k ∧ num c k < M + 48271
  | 0 => ⟨by have := Int.emod_nonneg c (show M ≠ 0 by decide); show 0 ≤ c % M + 48271; omega, by have := Int.emod_lt_of_pos c (show 0 < M by decide); show c % M + 48271 < M + 48271; omega⟩
  | k + 1 => ⟨Int.emod_nonneg _ (by decide), by have := Int.emod_lt_of_pos (num c k * num c k + 69621 * num c k + k) (show 0 < M by decide); show _ % M < M + 48271; omega⟩
def streamD (c : Int) (m : Nat) : List D := (List.range m).map fun i => .int (num c (i + 2))
def preStream (ds : List D) : Prop := ∃ c m : Int, ds = [.int c, .int m] ∧ 0 ≤ m ∧ m ≤ 1000
def resStream : List D → List D
  | [.int c, .int m] => streamD c m.toNat
  | _ => []
theorem ok_law_stream (Z : Tx K mg k_FIELDS k_PAIR_FIELDS u_LETTERS u_LONGEST_NAME u_LONGEST_TEXT u_NO_SIGN f_is_name f_is_sign f_is_text f_pair_fact f_fact_of f_law_cell_at f_law_stream f_law_name f_law_text f_law_good f_law d_is_name d_is_sign d_is_text d_pair_fact d_fact_of d_law_cell_at d_law_stream d_law_name d_law_text d_law_good d_law) : FnOk P w K mg base CX0 1 f_law_stream d_law_stream ["_law_cell", "_law_many"] (SpO K preStream resStream) := by
  refine Z.F_law_stream.ok sc_law_stream (fun vs H Q E h => spO_len (n := 2) (by rintro ds ⟨c, m, rfl, _⟩; rfl) h) (fun cdv A outer s H vs Q E hr h => ⟨_, (pss_cons (ps_set (i := 2) sc_law_stream.nd rfl (Or.inl rfl) (pe_lst pa_nil))
      (pss_cons (ps_set (i := 3) sc_law_stream.nd rfl (Or.inl rfl) (pe_op op_add (pe_op op_mod (pv 0) pe_int) pe_int))
      (pss_cons (ps_for PassesOwn.never rfl (pi_range1 (by rfl) Z.z_range (pa_cons (pe_op op_add (pv 1) pe_int) pa_nil)) (pg_name (i := 4) sc_law_stream.nd rfl (Or.inl rfl)) (pss_cons (ps_set (i := 3) sc_law_stream.nd rfl (Or.inl rfl) (pe_op op_mod (pe_op op_add (pe_op op_add (pe_op op_mul (pv 3) (pv 3)) (pe_op op_mul pe_int (pv 3))) (pv 4)) pe_int))
      (pss_one (ps_expr (pe_bm F.plainAttrs_list F.slot_list_append F.type_list_append mt_append (pv 2) (pa_cons (pv 3) pa_nil))))))
      (pss_one (ps_ret (pe_slice sl_list (pv 2) (po_some pe_int) po_none)))))), ?_⟩)
  refine go_spO h (by rw [spO_len (n := 2) (by rintro ds ⟨c, m, rfl, _⟩; rfl) h]; decide) fun G ds hp rt => ?_
  obtain ⟨c, m, rfl, hm0, hm1⟩ := hp
  refine go_seq (go_setO (evo_lst evaf_nil (by decide)) fun p => ?_)
  ((try dsimp only); refine nx_go ?_)
  refine go_seq (go_set (ev_add (ev_mod (ev_var rfl).b ev_int.b (by decide)).b ev_int.b) ?_)
  ((try dsimp only); refine nx_go ?_)
  refine go_seq (go_range (n := m + 1) (fun k ss => ∃ v4, ss = [.d (.int c), .d (.int m), .o p ((List.range k).map fun i => .int (num c (i + 1))), .d (.int (num c k)), v4]) (eva_cons (ev_add (ev_var rfl).b ev_int.b).b eva_nil) ⟨by omega, by omega⟩ ⟨.un, rfl⟩ ?_ ?_ (fun _ _ _ h => h))
  · rintro k ss hk ⟨v4, rfl⟩ N hN
    have hr := num_rng c k
    rw [show M = 4294967311 from rfl] at hr
    refine go_seq (go_set (ev_mod (ev_add (ev_add (ev_mul (ev_var rfl).b (ev_var rfl).b ?_).b (ev_mul ev_int.b (ev_var rfl).b ?_).b).b (ev_var rfl).b).b ev_int.b (by decide)) ?_)
    · exact .inl ⟨by omega, by omega⟩
    · exact .inl ⟨by decide, by decide⟩
    · ((try dsimp only); refine nx_go ?_)
      refine go_append rfl (ev_var rfl) ?_ ?_
      · rw [List.length_map, List.length_range, sizeLine_eq]; omega
      · refine hN _ ⟨.d (.int k), ?_⟩
        rw [List.range_succ, List.map_append]
        rfl
  · rintro ss ⟨v4, rfl⟩
    ((try dsimp only); refine nx_go ?_)
    refine go_retO (evo_slL (evl_own rfl) (evp_part ev_int.b) evp_no) ?_
    have e : cutD ((List.range (m + 1).toNat).map fun i => D.int (num c (i + 1))) (some 1) none = resStream [.int c, .int m] := by
      rw [cutD_from _ (by decide), show (m + 1).toNat = m.toNat + 1 by omega]
      show List.drop 1 _ = streamD c m.toNat
      rw [List.range_succ_eq_map, List.map_cons, List.drop_succ_cons, List.drop_zero, List.map_map]
      rfl
    rw [e]; exact rt
theorem small {n : Nat} (h : n ≤ 1000) : n ≤ sizeLine := by rw [sizeLine_eq]; omega
theorem atI_mod {α : Type} (xs : List α) (z : α) (x : Int) {n : Int} (hn : (xs.length : Int) = n) (h0 : 0 < n) : atI xs (x % n) = some (xs.getD (x % n).toNat z) := by
  have h1 := Int.emod_nonneg x (show n ≠ 0 by omega)
  have h2 := Int.emod_lt_of_pos x h0
  have := atI_nat (xs := xs) (j := (x % n).toNat) (v := xs.getD (x % n).toNat z) (by rw [List.getD_eq_getElem?_getD, List.getElem?_eq_getElem (by omega)]; rfl)
  rw [show (((x % n).toNat : Nat) : Int) = x % n by omega] at this
  exact this
theorem at_stream (c : Int) (m : Nat) (i : Nat) (h : i < m) : atI (streamD c m) (i : Int) = some (.int (num c (i + 2))) :=
  atI_nat (by unfold streamD; rw [List.getElem?_map, List.getElem?_range h]; rfl)
def lets : List Nat := ("abcdefghijklmnopqrstuvwxyz" : Str).cps.toList
theorem lets_len : lets.length = 26 := by decide +kernel
theorem lets_lt : ∀ c ∈ lets, c < 128 := by decide +kernel
def letter (x : Int) : Nat := lets.getD (x % 26).toNat 0
theorem at_lets (x : Int) : atI lets (x % 26) = some (letter x) := atI_mod lets 0 x (by rw [lets_len]; rfl) (by decide)
theorem letter_mem (x : Int) : letter x ∈ lets := by
  have h1 := Int.emod_nonneg x (show (26 : Int) ≠ 0 by decide)
  have h2 := Int.emod_lt_of_pos x (show (0 : Int) < 26 by decide)
  unfold letter
  rw [List.getD_eq_getElem?_getD, List.getElem?_eq_getElem (by rw [lets_len]; omega)]
  exact List.getElem_mem _
def signs : List Nat := ((List.range 95).map (· + 32)).filter (· != 37)
theorem signs_len : signs.length = 94 := by decide +kernel
theorem signs_lt : ∀ c ∈ signs, c < 128 := by decide +kernel
theorem at_signs (x : Int) : atI signs (x % 94) = some (signs.getD (x % 94).toNat 0) := atI_mod signs 0 x (by rw [signs_len]; rfl) (by decide)
theorem sign_mem (x : Int) : signs.getD (x % 94).toNat 0 ∈ signs := by
  have h1 := Int.emod_nonneg x (show (94 : Int) ≠ 0 by decide)
  have h2 := Int.emod_lt_of_pos x (show (0 : Int) < 94 by decide)
  rw [List.getD_eq_getElem?_getD, List.getElem?_eq_getElem (by rw [signs_len]; omega)]
  exact List.getElem_mem _
def flds : List (List Nat) := [[110, 97, 109, 101], [102, 111, 114, 109, 101, 114], [119, 97, 121], [100, 97, 121], [109, 97, 114, 107]]
def prs : List (List Nat) := [[115, 97, 109, 101], [97, 112, 97, 114, 116]]
def NameOk (n : List Nat) : Prop := 1 ≤ n.length ∧ n.length ≤ 12 ∧ ∀ c ∈ n, c ∈ lets
instance (n : List Nat) : Decidable (NameOk n) := by unfold NameOk; exact inferInstance
def TextOk (t : List Nat) : Prop := 1 ≤ t.length ∧ t.length ≤ 40 ∧ t = stripL [32].contains t ∧ ∀ c ∈ t, c ∈ signs
def preS (ds : List D) : Prop := ∃ l, ds = [.str l] ∧ l.length ≤ 1000
def nameB (l : List Nat) : Bool := (decide ((1 : Int) ≤ (l.length : Int)) && decide ((l.length : Int) ≤ 12)) && l.all fun c => decide (c ∈ lets)
def resName : List D → D
  | [.str l] => .bl (nameB l)
  | _ => .non
theorem ok_is_name (Z : Tx K mg k_FIELDS k_PAIR_FIELDS u_LETTERS u_LONGEST_NAME u_LONGEST_TEXT u_NO_SIGN f_is_name f_is_sign f_is_text f_pair_fact f_fact_of f_law_cell_at f_law_stream f_law_name f_law_text f_law_good f_law d_is_name d_is_sign d_is_text d_pair_fact d_fact_of d_law_cell_at d_law_stream d_law_name d_law_text d_law_good d_law) : FnOk P w K mg base CX0 1 f_is_name d_is_name ["text"] (SpD K preS resName) := by
  refine Z.F_is_name.ok sc_is_name (fun vs H Q E h => spD_len (n := 1) (by rintro ds ⟨c, rfl, _⟩; rfl) h) (fun cdv A outer s H vs Q E hr h => ⟨_, (pss_one (ps_ret (pe_and (pe_chain op_le op_le pe_int (pe_callB call_len_str (by rfl) Z.z_len boot_len (pa_cons (pv 0) pa_nil)) (pe_glob (by rfl) Z.M_LONGEST_NAME Z.R_LONGEST_NAME)) (pe_one (pe_callB (call_all rfl) (by rfl) Z.z_all boot_all (pa_cons (pe_lc rfl (LcOk.of (Nx := (["text"] : List Str)) (sc := defScope s_is_name) (N' := (["sign"] : List Str)) (nt := 1) (cs := []) rfl rfl (by decide +kernel)) (pi_str (pv 0)) (fun _ _ _ _ => (pg_name (i := 0) (show List.Nodup (["sign"] : List Str) by decide +kernel) rfl (Or.inl rfl))) (fun _ _ _ _ => pifs_nil) (fun _ _ _ _ => (pe_cmpR op_in_str (pv 0) (pe_glob (by rfl) Z.M_LETTERS Z.R_LETTERS) (by with_unfolding_all rfl)))) pa_nil)))))), ?_⟩)
  refine go_spD h (by rw [spD_len (n := 1) (by rintro ds ⟨c, rfl, _⟩; rfl) h]; decide) fun G ds hp rt => ?_
  obtain ⟨l, rfl, hl⟩ := hp
  have rt : RtD K G H Q (.bl (nameB l)) := rt
  have hz : l.length ≤ sizeLine := small hl
  exact go_ret (ev_and (ev_chainI ev_int.b (ev_lenS (ev_var rfl).b hz).b ev_int.b) fun _ => ev_allM (xs := l) (g := fun c => decide (c ∈ lets)) (EvO.l (evo_lcStr l (fun c => .bl (decide (c ∈ lets))) (ev_var rfl).b (gk_name (by decide)) (by decide) (by rw [sizeLine_eq]; omega) fun c hc => ⟨_, tg_name, ev_inS (ev_var rfl).b (ev_str (l := lets) (by decide +kernel) lets_lt).b⟩))) rt
theorem name_true {l : List Nat} (h : NameOk l) : nameB l = true := by
  unfold nameB
  obtain ⟨h1, h2, h3⟩ := h
  rw [decide_eq_true (show (1 : Int) ≤ (l.length : Int) by omega), decide_eq_true (show (l.length : Int) ≤ 12 by omega)]
  simp only [Bool.true_and, List.all_eq_true, decide_eq_true_eq]
  exact h3
def preC (ds : List D) : Prop := ∃ c : Nat, ds = [.str [c]]
def signB (c : Nat) : Bool := (!decide ([c] < [32]) && !decide ([126] < [c])) && !decide ((c : Int) = 37)
def resSign : List D → D
  | [.str [c]] => .bl (signB c)
  | _ => .non
theorem ok_is_sign (Z : Tx K mg k_FIELDS k_PAIR_FIELDS u_LETTERS u_LONGEST_NAME u_LONGEST_TEXT u_NO_SIGN f_is_name f_is_sign f_is_text f_pair_fact f_fact_of f_law_cell_at f_law_stream f_law_name f_law_text f_law_good f_law d_is_name d_is_sign d_is_text d_pair_fact d_fact_of d_law_cell_at d_law_stream d_law_name d_law_text d_law_good d_law) : FnOk P w K mg base CX0 1 f_is_sign d_is_sign ["sign"] (SpD K preC resSign) := by
  refine Z.F_is_sign.ok sc_is_sign (fun vs H Q E h => spD_len (n := 1) (by rintro ds ⟨c, rfl⟩; rfl) h) (fun cdv A outer s H vs Q E hr h => ⟨_, (pss_one (ps_ret (pe_and (pe_chain op_le_str op_le_str pe_str (pv 0) pe_str) (pe_one (pe_cmpR op_ne (pe_callB call_ord (by rfl) Z.z_ord boot_ord (pa_cons (pv 0) pa_nil)) (pe_glob (by rfl) Z.M_NO_SIGN Z.R_NO_SIGN) (nomark _)))))), ?_⟩)
  refine go_spD h (by rw [spD_len (n := 1) (by rintro ds ⟨c, rfl⟩; rfl) h]; decide) fun G ds hp rt => ?_
  obtain ⟨c, rfl⟩ := hp
  have rt : RtD K G H Q (.bl (signB c)) := rt
  exact go_ret (ev_and (ev_chainS (ev_str (l := [32]) (by decide +kernel) (by decide)).b (ev_var rfl).b (ev_str (l := [126]) (by decide +kernel) (by decide)).b) fun _ => ev_neI (ev_ord (ev_var rfl).b).b ev_int.b) rt
theorem sign_true : ∀ c ∈ signs, signB c = true := by decide +kernel
def textB (l : List Nat) : Bool := (decide ((1 : Int) ≤ (l.length : Int)) && decide ((l.length : Int) ≤ 40)) && (decide (l = stripL [32].contains l) && l.all fun c => signB c)
def resText : List D → D
  | [.str l] => .bl (textB l)
  | _ => .non
theorem ok_is_text (Z : Tx K mg k_FIELDS k_PAIR_FIELDS u_LETTERS u_LONGEST_NAME u_LONGEST_TEXT u_NO_SIGN f_is_name f_is_sign f_is_text f_pair_fact f_fact_of f_law_cell_at f_law_stream f_law_name f_law_text f_law_good f_law d_is_name d_is_sign d_is_text d_pair_fact d_fact_of d_law_cell_at d_law_stream d_law_name d_law_text d_law_good d_law) : FnOk P w K mg base CX0 2 f_is_text d_is_text ["text"] (SpD K preS resText) := by
  have G_is_sign := ok_is_sign (P := P) (w := w) (base := base) Z
  refine Z.F_is_text.ok sc_is_text (fun vs H Q E h => spD_len (n := 1) (by rintro ds ⟨c, rfl, _⟩; rfl) h) (fun cdv A outer s H vs Q E hr h => ⟨_, (pss_cons (ps_if (pt_not (pt_chain op_le op_le pe_int (pe_callB call_len_str (by rfl) Z.z_len boot_len (pa_cons (pv 0) pa_nil)) (pe_glob (by rfl) Z.M_LONGEST_TEXT Z.R_LONGEST_TEXT))) (pss_one (ps_ret pe_bl)) pss_nil)
      (pss_one (ps_ret (pe_and (pe_cmpR op_eq (pv 0) (pe_bm F.plainAttrs_str F.slot_str_strip F.type_str_strip mt_stripC (pv 0) (pa_cons pe_str pa_nil)) (nomark _)) (pe_one (pe_callB (call_all rfl) (by rfl) Z.z_all boot_all (pa_cons (pe_lc rfl (LcOk.of (Nx := (["text"] : List Str)) (sc := defScope s_is_text) (N' := (["sign"] : List Str)) (nt := 1) (cs := []) rfl rfl (by decide +kernel)) (pi_str (pv 0)) (fun _ _ _ _ => (pg_name (i := 0) (show List.Nodup (["sign"] : List Str) by decide +kernel) rfl (Or.inl rfl))) (fun _ _ _ _ => pifs_nil) (fun _ _ _ _ => (pe_call G_is_sign (hr.mono (by decide)) (by rfl) Z.M_is_sign Z.F_is_sign.kp Z.B_is_sign .nil pass0 (pa_cons (pv 0) pa_nil)))) pa_nil))))))), ?_⟩)
  refine go_spD h (by rw [spD_len (n := 1) (by rintro ds ⟨c, rfl, _⟩; rfl) h]; decide) fun G ds hp rt => ?_
  obtain ⟨l, rfl, hl⟩ := hp
  have rt : RtD K G H Q (.bl (textB l)) := rt
  have hz : l.length ≤ sizeLine := small hl
  refine go_seq (go_if (evt_not (evt_test (ev_chainI ev_int.b (ev_lenS (ev_var rfl).b hz).b ev_int.b))) (fun hb => ?_) (fun hb => ?_))
  · have e : textB l = false := by
      unfold textB
      rw [Bool.not_eq_true'] at hb
      rw [hb, Bool.false_and]
    rw [e] at rt
    exact go_ret ev_bl rt
  · refine go_next ?_
    ((try dsimp only); refine nx_go ?_)
    have e : textB l = (decide (l = stripL [32].contains l) && l.all fun c => signB c) := by
      unfold textB
      rw [Bool.not_eq_false'] at hb
      rw [hb, Bool.true_and]
    rw [e] at rt
    exact go_ret (ev_and (ev_eqS (ev_var rfl).b (ev_strip (ev_var rfl).b (ev_str (l := [32]) (by decide +kernel) (by decide)).b hz).b) fun _ => ev_allM (xs := l) (g := fun c => signB c) (EvO.l (evo_lcStr l (fun c => .bl (signB c)) (ev_var rfl).b (gk_name (by decide)) (by decide) (by rw [sizeLine_eq]; omega) fun c hc => ⟨_, tg_name, ev_call (pre := preC) (res := resSign) (evaf_cons (ev_var rfl) evaf_nil) ⟨c, rfl⟩⟩))) rt
theorem text_true {l : List Nat} (h : TextOk l) : textB l = true := by
  unfold textB
  obtain ⟨h1, h2, h3, h4⟩ := h
  rw [decide_eq_true (show (1 : Int) ≤ (l.length : Int) by omega), decide_eq_true (show (l.length : Int) ≤ 40 by omega), decide_eq_true h3]
  simp only [Bool.true_and, List.all_eq_true]
  exact fun c hc => sign_true c (h4 c hc)
def prePf (ds : List D) : Prop := ∃ a f b, ds = [.str a, .str f, .str b]
def resPf : List D → D
  | [.str a, .str f, .str b] => .tup [.str (minL a b), .str f, .str (maxL a b)]
  | _ => .non
theorem ok_pair_fact (Z : Tx K mg k_FIELDS k_PAIR_FIELDS u_LETTERS u_LONGEST_NAME u_LONGEST_TEXT u_NO_SIGN f_is_name f_is_sign f_is_text f_pair_fact f_fact_of f_law_cell_at f_law_stream f_law_name f_law_text f_law_good f_law d_is_name d_is_sign d_is_text d_pair_fact d_fact_of d_law_cell_at d_law_stream d_law_name d_law_text d_law_good d_law) : FnOk P w K mg base CX0 1 f_pair_fact d_pair_fact ["one", "field", "other"] (SpD K prePf resPf) := by
  refine Z.F_pair_fact.ok sc_pair_fact (fun vs H Q E h => spD_len (n := 3) (by rintro ds ⟨a, f, b, rfl⟩; rfl) h) (fun cdv A outer s H vs Q E hr h => ⟨_, (pss_one (ps_ret (pe_tup (pa_cons (pe_callB (call_minS rfl) (by rfl) Z.z_min boot_min (pa_cons (pv 0) (pa_cons (pv 2) pa_nil))) (pa_cons (pv 1) (pa_cons (pe_callB (call_maxS rfl) (by rfl) Z.z_max boot_max (pa_cons (pv 0) (pa_cons (pv 2) pa_nil))) pa_nil)))))), ?_⟩)
  refine go_spD h (by rw [spD_len (n := 3) (by rintro ds ⟨a, f, b, rfl⟩; rfl) h]; decide) fun G ds hp rt => ?_
  obtain ⟨a, f, b, rfl⟩ := hp
  exact go_ret (ev_tup (evaf_cons (ev_minS (ev_var rfl).b (ev_var rfl).b) (evaf_cons (ev_var rfl) (evaf_cons (ev_maxS (ev_var rfl).b (ev_var rfl).b) evaf_nil))) (small (by simp))) rt
abbrev Row := List Nat × List Nat × List Nat
def rowL (x : Row) : List Nat := x.1 ++ 32 :: (x.2.1 ++ 32 :: x.2.2)
def RowOk (x : Row) : Prop := NameOk x.1 ∧ ((x.2.1 ∈ flds ∧ TextOk x.2.2) ∨ (x.2.1 ∈ prs ∧ NameOk x.2.2 ∧ x.1 ≠ x.2.2))
def preFo (x : Row) (ds : List D) : Prop := ds = [.str (rowL x)] ∧ RowOk x
def resFo (x : Row) : D := if x.2.1 ∈ prs then .tup [.str (minL x.1 x.2.2), .str x.2.1, .str (maxL x.1 x.2.2)] else .tup [.str x.1, .str x.2.1, .str x.2.2]
theorem fl_not_pr : ∀ f ∈ flds, f ∉ prs := by decide +kernel
theorem pr_not_fl : ∀ f ∈ prs, f ∉ flds := by decide +kernel
theorem fld_plain : ∀ f ∈ flds ++ prs, 32 ∉ f ∧ f.length ≤ 6 := by decide +kernel
theorem lets_no : 32 ∉ lets := by decide +kernel
theorem mem_strs {f : List Nat} {ls : List (List Nat)} : decide (D.str f ∈ ls.map D.str) = decide (f ∈ ls) := by
  congr 1
  rw [List.mem_map]
  apply propext
  exact ⟨fun ⟨g, hg, e⟩ => by injection e with e; rw [← e]; exact hg, fun h => ⟨f, h, rfl⟩⟩
theorem ok_fact_of (Z : Tx K mg k_FIELDS k_PAIR_FIELDS u_LETTERS u_LONGEST_NAME u_LONGEST_TEXT u_NO_SIGN f_is_name f_is_sign f_is_text f_pair_fact f_fact_of f_law_cell_at f_law_stream f_law_name f_law_text f_law_good f_law d_is_name d_is_sign d_is_text d_pair_fact d_fact_of d_law_cell_at d_law_stream d_law_name d_law_text d_law_good d_law) : FnOk P w K mg base CX0 3 f_fact_of d_fact_of ["row"] (SpG K preFo resFo) := by
  have G_is_name : FnOk P w K mg base CX0 2 f_is_name d_is_name ["text"] (SpD K preS resName) := (ok_is_name Z).mono (by decide)
  have G_is_text := ok_is_text (P := P) (w := w) (base := base) Z
  have G_pair_fact : FnOk P w K mg base CX0 2 f_pair_fact d_pair_fact ["one", "field", "other"] (SpD K prePf resPf) := (ok_pair_fact Z).mono (by decide)
  refine Z.F_fact_of.ok sc_fact_of (fun vs H Q E h => spG_len (n := 1) (by rintro x ds ⟨rfl, _⟩; rfl) h) (fun cdv A outer s H vs Q E hr h => ⟨_, (pss_cons (ps_set (i := 1) sc_fact_of.nd rfl (Or.inl rfl) (pe_bm F.plainAttrs_str F.slot_str_split F.type_str_split mt_split2 (pv 0) (pa_cons pe_str (pa_cons pe_int pa_nil))))
      (pss_cons (ps_if (pw_or (pt_cmpR op_lt (pe_callB call_len_seq (by rfl) Z.z_len boot_len (pa_cons (pv 1) pa_nil)) pe_int (nomark _)) (pw_or1 (pt_not (pt_val (pe_call G_is_name (hr.mono (by decide)) (by rfl) Z.M_is_name Z.F_is_name.kp Z.B_is_name .nil pass0 (pa_cons (pe_ix (show IxR _ (rIxL K) from ix_list) (pv 1) pe_int (fun _ _ => rfl)) pa_nil)))))).pt (pss_one ps_never) pss_nil)
      (pss_cons (ps_if (pw_and (pt_cmpR (show OpR _ _ (rInD K false) from op_inD hr.units) (pe_ix (show IxR _ (rIxL K) from ix_list) (pv 1) pe_int (fun _ _ => rfl)) (pe_glob (v := .ref k_FIELDS) (by rfl) Z.M_FIELDS rfl) (by with_unfolding_all rfl)) (pw_and1 (pt_val (pe_call G_is_text (hr.mono (by decide)) (by rfl) Z.M_is_text Z.F_is_text.kp Z.B_is_text .nil pass0 (pa_cons (pe_ix (show IxR _ (rIxL K) from ix_list) (pv 1) pe_int (fun _ _ => rfl)) pa_nil))))).pt (pss_one (ps_ret (pe_callTy call_tuple_of (by rfl) Z.z_tuple boot_tuple (pa_cons (pv 1) pa_nil)))) pss_nil)
      (pss_cons (ps_if (pw_and (pt_cmpR (show OpR _ _ (rInD K false) from op_inD hr.units) (pe_ix (show IxR _ (rIxL K) from ix_list) (pv 1) pe_int (fun _ _ => rfl)) (pe_glob (v := .ref k_PAIR_FIELDS) (by rfl) Z.M_PAIR_FIELDS rfl) (by with_unfolding_all rfl)) (pw_and (pt_val (pe_call G_is_name (hr.mono (by decide)) (by rfl) Z.M_is_name Z.F_is_name.kp Z.B_is_name .nil pass0 (pa_cons (pe_ix (show IxR _ (rIxL K) from ix_list) (pv 1) pe_int (fun _ _ => rfl)) pa_nil))) (pw_and1 (pt_cmpR op_ne (pe_ix (show IxR _ (rIxL K) from ix_list) (pv 1) pe_int (fun _ _ => rfl)) (pe_ix (show IxR _ (rIxL K) from ix_list) (pv 1) pe_int (fun _ _ => rfl)) (nomark _))))).pt (pss_one (ps_ret (pe_call G_pair_fact (hr.mono (by decide)) (by rfl) Z.M_pair_fact Z.F_pair_fact.kp Z.B_pair_fact .nil pass0 (pa_cons (pe_ix (show IxR _ (rIxL K) from ix_list) (pv 1) pe_int (fun _ _ => rfl)) (pa_cons (pe_ix (show IxR _ (rIxL K) from ix_list) (pv 1) pe_int (fun _ _ => rfl)) (pa_cons (pe_ix (show IxR _ (rIxL K) from ix_list) (pv 1) pe_int (fun _ _ => rfl)) pa_nil)))))) pss_nil)
      (pss_one ps_never))))), ?_⟩)
  refine go_spG h (by rw [spG_len (n := 1) (by rintro x ds ⟨rfl, _⟩; rfl) h]; decide) fun G ds x hp rt => ?_
  obtain ⟨rfl, hx⟩ := hp
  obtain ⟨c, f, t⟩ := x
  unfold rowL
  obtain ⟨hc, hft⟩ := hx
  dsimp only at hc hft rt ⊢
  have hfm : f ∈ flds ++ prs := by
    rcases hft with h | h
    · exact List.mem_append_left _ h.1
    · exact List.mem_append_right _ h.1
  obtain ⟨hf32, hfl⟩ := fld_plain f hfm
  have hc32 : 32 ∉ c := fun h => lets_no (hc.2.2 _ h)
  have htl : t.length ≤ 40 := by
    rcases hft with h | h
    · exact h.2.2.1
    · have := h.2.1.2.1; omega
  have hcl := hc.2.1
  have sp := split_three (z := 32) (c := t) hc32 hf32
  refine go_seq (go_setO (ds := [.str c, .str f, .str t]) (by
    have e : [D.str c, .str f, .str t] = (splitN 32 (2 : Int).toNat (c ++ 32 :: (f ++ 32 :: t))).map D.str := by
      rw [show (2 : Int).toNat = 2 from rfl, sp]; rfl
    rw [e]
    exact evo_split2 (ev_var rfl).b (ev_str (l := [32]) (by decide +kernel) (by decide)).b ev_int.b ⟨by decide, by decide⟩ (by simp [sizeLine_eq]; omega)) fun p => nx_freeze (i := 1) rfl ?_)
  ((try dsimp only); refine nx_go ?_)
  have callN : resName [.str c] = .bl true := by show D.bl (nameB c) = _; rw [name_true hc]
  refine go_seq (go_if (b := (decide ((([D.str c, D.str f, D.str t].length : Nat) : Int) < 3) || !true)) (evt_or (evt_test (ev_lt (ev_lenL (ev_var rfl).l).b ev_int.b)) fun _ => evt_not (evt_b (by
    rw [← callN]
    exact ev_call (pre := preS) (res := resName) (evaf_cons (ev_ixL (ev_var rfl).l ev_int.b rfl) evaf_nil) ⟨c, rfl, by omega⟩))) (fun hb => by simp at hb) (fun _ => ?_))
  refine go_next ?_
  ((try dsimp only); refine nx_go ?_)
  have inT : ∀ {ls : List (List Nat)} {k : Addr} (h : TupK K k ls) {L0 : Hp} {ss : List Sl} (hs : ss[1]? = some (.d (.lst [.str c, .str f, .str t]))), Ev K G H L0 ss (tOp (rInD K false) (tOp (rIxL K) (tVar 1) (tC (.int 1))) (tC (.ref k))) (.bl (decide (f ∈ ls))) := fun {ls k} h {L0 ss} hs => by
    rw [← mem_strs]
    exact ev_inT (ev_ixL (ev_var hs).l ev_int.b rfl).b (ev_const h).b rfl (D.nbs_map (fun _ => rfl) ls) (by simp [D.dep])
  rcases hft with ⟨h1, h2⟩ | ⟨h1, h2, h3⟩
  · have callT : resText [.str t] = .bl true := by show D.bl (textB t) = _; rw [text_true h2]
    refine go_seq (go_if (b := (decide (f ∈ flds) && true)) (evt_and (evt_test (inT Z.K_FIELDS rfl)) fun _ => evt_b (by
      rw [← callT]
      exact ev_call (pre := preS) (res := resText) (evaf_cons (ev_ixL (ev_var rfl).l ev_int.b rfl) evaf_nil) ⟨t, rfl, by omega⟩)) (fun _ => ?_) (fun hb => by rw [decide_eq_true h1] at hb; cases hb))
    have e : resFo (c, f, t) = .tup [.str c, .str f, .str t] := by unfold resFo; rw [if_neg (fl_not_pr f h1)]
    rw [e] at rt
    exact go_ret (ev_tupleOf (ev_var rfl).l (small (by simp))) rt
  · refine go_seq (go_if (b := (decide (f ∈ flds) && true)) (evt_and (evt_test (inT Z.K_FIELDS rfl)) fun hb => by rw [decide_eq_false (pr_not_fl f h1)] at hb; cases hb) (fun hb => by rw [decide_eq_false (pr_not_fl f h1)] at hb; cases hb) (fun _ => ?_))
    refine go_next ?_
    ((try dsimp only); refine nx_go ?_)
    have callN2 : resName [.str t] = .bl true := by show D.bl (nameB t) = _; rw [name_true h2]
    refine go_seq (go_if (b := (decide (f ∈ prs) && (true && !decide (c = t)))) (evt_and (evt_test (inT Z.K_PAIR_FIELDS rfl)) fun _ => evt_and (evt_b (by
      rw [← callN2]
      exact ev_call (pre := preS) (res := resName) (evaf_cons (ev_ixL (ev_var rfl).l ev_int.b rfl) evaf_nil) ⟨t, rfl, by omega⟩)) fun _ => evt_test (ev_neS (ev_ixL (ev_var rfl).l ev_int.b rfl).b (ev_ixL (ev_var rfl).l ev_int.b rfl).b)) (fun _ => ?_) (fun hb => by rw [decide_eq_true h1, decide_eq_false h3] at hb; cases hb))
    have e : resFo (c, f, t) = resPf [.str c, .str f, .str t] := by unfold resFo; rw [if_pos h1]; rfl
    rw [e] at rt
    exact go_ret (ev_call (pre := prePf) (res := resPf) (evaf_cons (ev_ixL (ev_var rfl).l ev_int.b rfl) (evaf_cons (ev_ixL (ev_var rfl).l ev_int.b rfl) (evaf_cons (ev_ixL (ev_var rfl).l ev_int.b rfl) evaf_nil))) ⟨c, f, t, rfl⟩) rt
def words7 : List (List Nat) := [[110, 97, 109, 101], [102, 111, 114, 109, 101, 114], [119, 97, 121], [100, 97, 121], [109, 97, 114, 107], [115, 97, 109, 101], [97, 112, 97, 114, 116]]
theorem words7_ok : ∀ w ∈ words7, NameOk w := by decide +kernel
theorem atS_mod (ws : List (List Nat)) (x : Int) {n : Int} (hn : (ws.length : Int) = n) (h0 : 0 < n) : atI (ws.map D.str) (x % n) = some (.str (ws.getD (x % n).toNat [])) := by
  have h1 := Int.emod_nonneg x (show n ≠ 0 by omega)
  have h2 := Int.emod_lt_of_pos x h0
  have := atI_nat (xs := ws.map D.str) (j := (x % n).toNat) (v := .str (ws.getD (x % n).toNat [])) (by rw [List.getElem?_map, List.getD_eq_getElem?_getD, List.getElem?_eq_getElem (by omega)]; rfl)
  rw [show (((x % n).toNat : Nat) : Int) = x % n by omega] at this
  exact this
theorem getD_mod (ws : List (List Nat)) (x : Int) {n : Int} (hn : (ws.length : Int) = n) (h0 : 0 < n) : ws.getD (x % n).toNat [] ∈ ws := by
  have h1 := Int.emod_nonneg x (show n ≠ 0 by omega)
  have h2 := Int.emod_lt_of_pos x h0
  rw [List.getD_eq_getElem?_getD, List.getElem?_eq_getElem (by omega)]
  exact List.getElem_mem _
def preI (ds : List D) : Prop := ∃ c : Int, ds = [.int c]
def relN (_ : List D) (r : D) : Prop := ∃ n, r = .str n ∧ NameOk n
theorem ok_law_name (Z : Tx K mg k_FIELDS k_PAIR_FIELDS u_LETTERS u_LONGEST_NAME u_LONGEST_TEXT u_NO_SIGN f_is_name f_is_sign f_is_text f_pair_fact f_fact_of f_law_cell_at f_law_stream f_law_name f_law_text f_law_good f_law d_is_name d_is_sign d_is_text d_pair_fact d_fact_of d_law_cell_at d_law_stream d_law_name d_law_text d_law_good d_law) : FnOk P w K mg base CX0 2 f_law_name d_law_name ["_law_cell"] (SpRD K preI relN) := by
  have G_law_stream := ok_law_stream (P := P) (w := w) (base := base) Z
  refine Z.F_law_name.ok sc_law_name (fun vs H Q E h => spRD_len (n := 1) (by rintro ds ⟨c, rfl⟩; rfl) h) (fun cdv A outer s H vs Q E hr h => ⟨_, (pss_cons (ps_set (i := 1) sc_law_name.nd rfl (Or.inr rfl) pe_str)
      (pss_cons (ps_if (pt_cmpR op_eq (pe_op op_mod (pv 0) pe_int) pe_int (nomark _)) (pss_one (ps_ret (pe_ix (show IxR _ (rIxL K) from ix_list) (pe_lst (pa_cons pe_str (pa_cons pe_str (pa_cons pe_str (pa_cons pe_str (pa_cons pe_str (pa_cons pe_str (pa_cons pe_str pa_nil)))))))) (pe_op op_mod (pe_op op_fdiv (pv 0) pe_int) pe_int) (fun _ _ => rfl)))) pss_nil)
      (pss_one (ps_ret (pe_bm F.plainAttrs_str F.slot_str_join F.type_str_join mt_join pe_str (pa_cons (pe_lc rfl (LcOk.of (Nx := (["_law_cell", "_law_letters"] : List Str)) (sc := defScope s_law_name) (N' := (["_law_draw", "_law_letters"] : List Str)) (nt := 1) (cs := [1]) rfl rfl (by decide +kernel)) (pi_list (pe_call G_law_stream (hr.mono (by decide)) (by rfl) Z.M_law_stream Z.F_law_stream.kp Z.B_law_stream .nil pass0 (pa_cons (pv 0) (pa_cons (pe_op op_add pe_int (pe_op op_mod (pe_op op_fdiv (pv 0) pe_int) pe_int)) pa_nil)))) (fun _ _ _ _ => (pg_name (i := 0) (show List.Nodup (["_law_draw", "_law_letters"] : List Str) by decide +kernel) rfl (Or.inl rfl))) (fun _ _ _ _ => pifs_nil) (fun _ _ _ _ => (pe_ix ix_str (pv 1) (pe_op op_mod (pv 0) pe_int) (fun _ _ => rfl)))) pa_nil)))))), ?_⟩)
  refine go_spRD h (by rw [spRD_len (n := 1) (by rintro ds ⟨c, rfl⟩; rfl) h]; decide) fun G ds hp rt => ?_
  obtain ⟨c, rfl⟩ := hp
  refine go_seq (go_set (ev_str (l := lets) (by decide +kernel) lets_lt) ?_)
  ((try dsimp only); refine nx_go ?_)
  refine go_seq (go_if (evt_test (ev_eqI (ev_mod (ev_var rfl).b ev_int.b (by decide)).b ev_int.b)) (fun hb => ?_) (fun hb => ?_))
  · exact go_ret (ev_ixL (ds := words7.map D.str) (EvO.l (evo_lst (evaf_cons (ev_str (by decide +kernel) (by decide)) (evaf_cons (ev_str (by decide +kernel) (by decide)) (evaf_cons (ev_str (by decide +kernel) (by decide)) (evaf_cons (ev_str (by decide +kernel) (by decide)) (evaf_cons (ev_str (by decide +kernel) (by decide)) (evaf_cons (ev_str (by decide +kernel) (by decide)) (evaf_cons (ev_str (by decide +kernel) (by decide)) evaf_nil))))))) (small (by decide)))) (ev_mod (ev_fdiv (ev_var rfl).b ev_int.b ⟨by decide, by decide⟩).b ev_int.b (by decide)).b (atS_mod words7 _ rfl (by decide))) (rt _ ⟨_, rfl, words7_ok _ (getD_mod words7 _ rfl (by decide))⟩)
  · refine go_next ?_
    ((try dsimp only); refine nx_go ?_)
    have h1 := Int.emod_nonneg (c / 7) (show (12 : Int) ≠ 0 by decide)
    have h2 := Int.emod_lt_of_pos (c / 7) (show (0 : Int) < 12 by decide)
    have hok : NameOk ((List.range (1 + c / 7 % 12).toNat).map fun i => letter (num c (i + 2))) := by
      refine ⟨by rw [List.length_map, List.length_range]; omega, by rw [List.length_map, List.length_range]; omega, fun x hx => ?_⟩
      obtain ⟨i, _, rfl⟩ := List.mem_map.mp hx
      exact letter_mem _
    refine go_ret (d := .str ((List.range (1 + c / 7 % 12).toNat).map fun i => letter (num c (i + 2)))) ?_ (rt _ ⟨_, rfl, hok⟩)
    rw [← glue_one]
    refine ev_joinM (xs := List.range (1 + c / 7 % 12).toNat) (z := []) (g := fun i => [letter (num c (i + 2))]) ?a (EvO.l ?b) ?c
    case a => exact (ev_str (by decide +kernel) (by decide)).b
    case b =>
      refine evo_lcM (List.range (1 + c / 7 % 12).toNat) (fun i => .int (num c (i + 2))) _ (EvO.l ?b1) (gk_name (by decide)) (by decide) ?b2 ?b3
      case b1 => exact evo_call (pre := preStream) (res := resStream) (evaf_cons (ev_var rfl) (evaf_cons (ev_add ev_int.b (ev_mod (ev_fdiv (ev_var rfl).b ev_int.b ⟨by decide, by decide⟩).b ev_int.b (by decide)).b) evaf_nil)) ⟨c, 1 + c / 7 % 12, rfl, by omega, by omega⟩
      case b2 => rw [List.length_range, sizeLine_eq]; omega
      case b3 =>
        intro i hi
        refine ⟨_, tg_name, ?_⟩
        exact ev_ixS (ev_var rfl).b (ev_mod (ev_var rfl).b ev_int.b (by decide)).b (by rw [lets_len, sizeLine_eq]; decide) (at_lets _)
    case c =>
      simp only [List.map_map, List.length_range, List.length_nil, Nat.mul_zero, Nat.add_zero]
      rw [show (List.length ∘ fun i => [letter (num c (i + 2))]) = fun _ => 1 from rfl, List.map_const', List.sum_replicate_nat, List.length_range]; omega
def words7b : List (List Nat) := [[115, 97, 109, 101], [97, 112, 97, 114, 116, 32, 98, 111], [35, 32, 120], [98, 111, 32, 110, 97, 109, 101, 32, 66, 111], [110, 97, 109, 101], [65], [48]]
theorem words7b_ok : ∀ w ∈ words7b, w.length ≤ 40 ∧ ∀ c ∈ w, c ∈ signs := by decide +kernel
def relT (_ : List D) (r : D) : Prop := ∃ t, r = .str t ∧ TextOk t
theorem cutL_mem' {m : List Nat} {lo hi : Option Int} {c : Nat} (h : c ∈ cutL m lo hi) : c ∈ m := List.mem_of_mem_drop (List.mem_of_mem_take h)
theorem cut9 (m : List Nat) : (cutL m none (some 9)).length ≤ 9 := by
  unfold cutL
  rw [sIx_at _ _ (by decide), List.length_take]
  omega
theorem cut9_38 (m : List Nat) : (cutL m (some 9) (some 38)).length ≤ 29 := by
  unfold cutL
  rw [sIx_at _ _ (by decide), sIx_at _ _ (by decide), List.length_take, List.length_drop]
  simp only [show (9 : Int).toNat = 9 from rfl, show (38 : Int).toNat = 38 from rfl]
  omega
theorem ok_law_text (Z : Tx K mg k_FIELDS k_PAIR_FIELDS u_LETTERS u_LONGEST_NAME u_LONGEST_TEXT u_NO_SIGN f_is_name f_is_sign f_is_text f_pair_fact f_fact_of f_law_cell_at f_law_stream f_law_name f_law_text f_law_good f_law d_is_name d_is_sign d_is_text d_pair_fact d_fact_of d_law_cell_at d_law_stream d_law_name d_law_text d_law_good d_law) : FnOk P w K mg base CX0 2 f_law_text d_law_text ["_law_cell"] (SpRD K preI relT) := by
  have G_law_stream := ok_law_stream (P := P) (w := w) (base := base) Z
  refine Z.F_law_text.ok sc_law_text (fun vs H Q E h => spRD_len (n := 1) (by rintro ds ⟨c, rfl⟩; rfl) h) (fun cdv A outer s H vs Q E hr h => ⟨_, (pss_cons (ps_set (i := 1) sc_law_text.nd rfl (Or.inr rfl) pe_str)
      (pss_cons (ps_set (i := 2) sc_law_text.nd rfl (Or.inl rfl) (pe_call G_law_stream (hr.mono (by decide)) (by rfl) Z.M_law_stream Z.F_law_stream.kp Z.B_law_stream .nil pass0 (pa_cons (pv 0) (pa_cons pe_int pa_nil))))
      (pss_cons (ps_set (i := 3) sc_law_text.nd rfl (Or.inl rfl) (pe_bm F.plainAttrs_str F.slot_str_join F.type_str_join mt_join pe_str (pa_cons (pe_lc rfl (LcOk.of (Nx := (["_law_cell", "_law_signs", "_law_draws", "_law_text_here"] : List Str)) (sc := defScope s_law_text) (N' := (["_law_draw", "_law_signs"] : List Str)) (nt := 1) (cs := [1]) rfl rfl (by decide +kernel)) (pi_list (pe_slice sl_list (pv 2) po_none (po_some (pe_op op_add pe_int (pe_op op_mod (pv 0) pe_int))))) (fun _ _ _ _ => (pg_name (i := 0) (show List.Nodup (["_law_draw", "_law_signs"] : List Str) by decide +kernel) rfl (Or.inl rfl))) (fun _ _ _ _ => pifs_nil) (fun _ _ _ _ => (pe_ix ix_str (pv 1) (pe_op op_mod (pv 0) pe_int) (fun _ _ => rfl)))) pa_nil)))
      (pss_cons (ps_if (pt_cmpR op_eq (pe_op op_mod (pe_op op_fdiv (pv 0) pe_int) pe_int) pe_int (nomark _)) (pss_one (ps_set (i := 3) sc_law_text.nd rfl (Or.inl rfl) (pe_op op_add_str (pe_op op_add_str (pe_slice sl_str (pv 3) po_none (po_some pe_int)) pe_str) (pe_slice sl_str (pv 3) (po_some pe_int) (po_some pe_int))))) pss_nil)
      (pss_cons (ps_if (pt_cmpR op_eq (pe_op op_mod (pe_op op_fdiv (pv 0) pe_int) pe_int) pe_int (nomark _)) (pss_one (ps_set (i := 3) sc_law_text.nd rfl (Or.inl rfl) (pe_ix (show IxR _ (rIxL K) from ix_list) (pe_lst (pa_cons pe_str (pa_cons pe_str (pa_cons pe_str (pa_cons pe_str (pa_cons pe_str (pa_cons pe_str (pa_cons pe_str pa_nil)))))))) (pe_op op_mod (pe_op op_fdiv (pv 0) pe_int) pe_int) (fun _ _ => rfl)))) pss_nil)
      (pss_cons (ps_set (i := 3) sc_law_text.nd rfl (Or.inl rfl) (pe_bm F.plainAttrs_str F.slot_str_strip F.type_str_strip mt_stripC (pv 3) (pa_cons pe_str pa_nil)))
      (pss_cons (ps_if (pt_cmpR op_eq (pv 3) pe_str (nomark _)) (pss_one (ps_ret pe_str)) pss_nil)
      (pss_one (ps_ret (pv 3)))))))))), ?_⟩)
  refine go_spRD h (by rw [spRD_len (n := 1) (by rintro ds ⟨c, rfl⟩; rfl) h]; decide) fun G ds hp rt => ?_
  obtain ⟨c, rfl⟩ := hp
  refine go_seq (go_set (ev_str (l := signs) (by decide +kernel) signs_lt) ?_)
  ((try dsimp only); refine nx_go ?_)
  refine go_seq (go_setO (evo_call (pre := preStream) (res := resStream) (evaf_cons (ev_var rfl) (evaf_cons ev_int evaf_nil)) ⟨c, 40, rfl, by decide, by decide⟩) fun pd => nx_freeze (i := 2) rfl ?_)
  ((try dsimp only); refine nx_go ?_)
  have ex3 : resStream [.int c, .int 40] = streamD c 40 := rfl
  rw [ex3]
  have h1 := Int.emod_nonneg c (show (40 : Int) ≠ 0 by decide)
  have h2 := Int.emod_lt_of_pos c (show (0 : Int) < 40 by decide)
  generalize hm : (1 + c % 40).toNat = m
  have ecut : cutD (streamD c 40) none (some (1 + c % 40)) = (List.range m).map fun i => .int (num c (i + 2)) := by
    rw [cutD_to _ (by omega), hm]
    unfold streamD
    rw [← List.map_take, List.take_range, Nat.min_eq_left (by omega)]
  refine go_seq ?_
  refine go_set (d := .str ((List.range m).map fun i => signs.getD (num c (i + 2) % 94).toNat 0)) ?_ ?f
  · rw [← glue_one]
    refine ev_joinM (xs := List.range m) (z := []) (g := fun i => [signs.getD (num c (i + 2) % 94).toNat 0]) ?a (EvO.l ?b) ?c
    case a => exact (ev_str (by decide +kernel) (by decide)).b
    case b =>
      refine evo_lcM (List.range m) (fun i => .int (num c (i + 2))) _ (EvO.l ?b1) (gk_name (by decide)) (by decide) ?b2 ?b3
      case b1 =>
        rw [← ecut]
        exact evo_slL (ev_var rfl).l evp_no (evp_part (ev_add ev_int.b (ev_mod (ev_var rfl).b ev_int.b (by decide)).b).b)
      case b2 => rw [List.length_range, sizeLine_eq]; omega
      case b3 =>
        intro i hi
        refine ⟨_, tg_name, ?_⟩
        exact ev_ixS (ev_var rfl).b (ev_mod (ev_var rfl).b ev_int.b (by decide)).b (by rw [signs_len, sizeLine_eq]; decide) (at_signs _)
    case c =>
      simp only [List.map_map, List.length_range, List.length_nil, Nat.mul_zero, Nat.add_zero]
      rw [show (List.length ∘ fun i => [signs.getD (num c (i + 2) % 94).toNat 0]) = fun _ => 1 from rfl, List.map_const', List.sum_replicate_nat, List.length_range]; omega
  case f =>
    ((try dsimp only); refine nx_go ?_)
    have t0 : ((List.range m).map fun i => signs.getD (num c (i + 2) % 94).toNat 0).length ≤ 40 ∧ ∀ x ∈ ((List.range m).map fun i => signs.getD (num c (i + 2) % 94).toNat 0), x ∈ signs := by
      refine ⟨by rw [List.length_map, List.length_range]; omega, fun x hx => ?_⟩
      obtain ⟨i, _, rfl⟩ := List.mem_map.mp hx
      exact sign_mem _
    generalize ((List.range m).map fun i => signs.getD (num c (i + 2) % 94).toNat 0) = t at t0
    have zt : ∀ {u : List Nat}, u.length ≤ 40 → u.length ≤ sizeLine := fun h => small (by omega)
    refine go_join (fun ss => ∃ t : List Nat, ss = [.d (.int c), .d (.str signs), .d (.lst (streamD c 40)), .d (.str t)] ∧ t.length ≤ 40 ∧ ∀ x ∈ t, x ∈ signs) (fun N hN => go_if (evt_test (ev_eqI (ev_mod (ev_fdiv (ev_var rfl).b ev_int.b ⟨by decide, by decide⟩).b ev_int.b (by decide)).b ev_int.b)) (fun hb => ?_) (fun hb => ?_)) ?_
    · have l1 := cut9 t
      have l2 := cut9_38 t
      refine go_set (ev_catS (ev_catS (ev_slS (ev_var rfl).b evp_no (evp_part ev_int.b) (zt t0.1)).b (ev_str (l := [32, 32]) (by decide +kernel) (by decide)).b (small (by simp; omega))).b (ev_slS (ev_var rfl).b (evp_part ev_int.b) (evp_part ev_int.b) (zt t0.1)).b (small (by simp; omega))) (hN _ ⟨_, rfl, by simp; omega, fun x hx => ?_⟩)
      rcases List.mem_append.mp hx with hx | hx
      · rcases List.mem_append.mp hx with hx | hx
        · exact t0.2 x (cutL_mem' hx)
        · have : x = 32 := by simpa using hx
          subst this; decide +kernel
      · exact t0.2 x (cutL_mem' hx)
    · exact go_next (hN _ ⟨t, rfl, t0.1, t0.2⟩)
    · rintro ss ⟨t1, rfl, t10⟩
      refine go_join (fun ss => ∃ t : List Nat, ss = [.d (.int c), .d (.str signs), .d (.lst (streamD c 40)), .d (.str t)] ∧ t.length ≤ 40 ∧ ∀ x ∈ t, x ∈ signs) (fun N hN => go_if (evt_test (ev_eqI (ev_mod (ev_fdiv (ev_var rfl).b ev_int.b ⟨by decide, by decide⟩).b ev_int.b (by decide)).b ev_int.b)) (fun hb => ?_) (fun hb => ?_)) ?_
      · have hw := words7b_ok _ (getD_mod words7b (c / 160) (n := 7) rfl (by decide))
        exact go_set (ev_ixL (ds := words7b.map D.str) (EvO.l (evo_lst (evaf_cons (ev_str (by decide +kernel) (by decide)) (evaf_cons (ev_str (by decide +kernel) (by decide)) (evaf_cons (ev_str (by decide +kernel) (by decide)) (evaf_cons (ev_str (by decide +kernel) (by decide)) (evaf_cons (ev_str (by decide +kernel) (by decide)) (evaf_cons (ev_str (by decide +kernel) (by decide)) (evaf_cons (ev_str (by decide +kernel) (by decide)) evaf_nil))))))) (small (by decide)))) (ev_mod (ev_fdiv (ev_var rfl).b ev_int.b ⟨by decide, by decide⟩).b ev_int.b (by decide)).b (atS_mod words7b _ rfl (by decide))) (hN _ ⟨_, rfl, hw.1, hw.2⟩)
      · exact go_next (hN _ ⟨t1, rfl, t10.1, t10.2⟩)
      · rintro ss ⟨t2, rfl, t20, t21⟩
        refine go_seq (go_set (ev_strip (ev_var rfl).b (ev_str (l := [32]) (by decide +kernel) (by decide)).b (zt t20)) ?_)
        ((try dsimp only); refine nx_go ?_)
        have hid := strip_idem [32].contains t2
        have hsl := strip_len [32].contains t2
        have hsm : ∀ x ∈ stripL [32].contains t2, x ∈ signs := fun x hx => t21 x (strip_mem hx)
        generalize stripL [32].contains t2 = t3 at hid hsl hsm
        refine go_seq (go_if (evt_test (ev_eqS (ev_var rfl).b (ev_str (l := []) (by decide +kernel) (by decide)).b)) (fun hb => ?_) (fun hb => ?_))
        · exact go_ret (ev_str (l := [126]) (by decide +kernel) (by decide)) (rt _ ⟨_, rfl, by decide, by decide, by decide +kernel, by decide +kernel⟩)
        · refine go_next ?_
          ((try dsimp only); refine nx_go ?_)
          have hne : t3 ≠ [] := of_decide_eq_false hb
          exact go_ret (ev_var rfl) (rt _ ⟨t3, rfl, List.length_pos_iff.mpr hne, by omega, hid.symm, hsm⟩)
def preGd (ds : List D) : Prop := ∃ a b c x y z : List Nat, ds = [.tup [.str a, .str b, .str c], .tup [.str x, .str y, .str z]]
def resGd : List D → D
  | [a, b] => .bl (decide (a = b))
  | _ => .non
theorem ok_law_good (Z : Tx K mg k_FIELDS k_PAIR_FIELDS u_LETTERS u_LONGEST_NAME u_LONGEST_TEXT u_NO_SIGN f_is_name f_is_sign f_is_text f_pair_fact f_fact_of f_law_cell_at f_law_stream f_law_name f_law_text f_law_good f_law d_is_name d_is_sign d_is_text d_pair_fact d_fact_of d_law_cell_at d_law_stream d_law_name d_law_text d_law_good d_law) : FnOk P w K mg base CX0 1 f_law_good d_law_good ["_law_found", "_law_due"] (SpD K preGd resGd) := by
  refine Z.F_law_good.ok sc_law_good (fun vs H Q E h => spD_len (n := 2) (by rintro ds ⟨a, b, c, x, y, z, rfl⟩; rfl) h) (fun cdv A outer s H vs Q E hr h => ⟨_, (pss_cons (ps_if (pw_or (pt_not (pt_val (pe_callB (show CallR _ _ (fun xs H Q => ∃ p ys, xs = [.ref p, .ty "tuple"] ∧ SqT K H p ys ∧ Q (.bl true) H) from call_isi_tup_tuple) (by rfl) Z.z_isinstance boot_isinstance (pa_cons (pv 0) (pa_cons (pe_bltn (v := .ty "tuple") (by rfl) Z.z_tuple boot_tuple rfl) pa_nil))))) (pw_or1 (pt_cmpR op_ne (pe_callB call_len_seq (by rfl) Z.z_len boot_len (pa_cons (pv 0) pa_nil)) pe_int (nomark _)))).pt (pss_one (ps_ret pe_bl)) pss_nil)
      (pss_one (ps_ret (pe_and (pe_callB (call_all rfl) (by rfl) Z.z_all boot_all (pa_cons (pe_lc rfl (LcOk.of (Nx := (["_law_found", "_law_due"] : List Str)) (sc := defScope s_law_good) (N' := (["_law_one"] : List Str)) (nt := 1) (cs := []) rfl rfl (by decide +kernel)) (pi_tup (pv 0)) (fun _ _ _ _ => (pg_name (i := 0) (show List.Nodup (["_law_one"] : List Str) by decide +kernel) rfl (Or.inl rfl))) (fun _ _ _ _ => pifs_nil) (fun _ _ _ _ => (pe_callB call_isi_str_str (by rfl) Z.z_isinstance boot_isinstance (pa_cons (pv 0) (pa_cons (pe_bltn (v := .ty "str") (by rfl) Z.z_str boot_str rfl) pa_nil))))) pa_nil)) (pe_one (pe_cmpR (show OpR _ _ (rEqD K) from op_eqD hr.units) (pv 0) (pv 1) (nomark _))))))), ?_⟩)
  refine go_spD h (by rw [spD_len (n := 2) (by rintro ds ⟨a, b, c, x, y, z, rfl⟩; rfl) h]; decide) fun G ds hp rt => ?_
  obtain ⟨a, b, c, x, y, z, rfl⟩ := hp
  have e : resGd [.tup [.str a, .str b, .str c], .tup [.str x, .str y, .str z]] = .bl (([a, b, c].all fun _ => true) && decide (D.tup [.str a, .str b, .str c] = .tup [.str x, .str y, .str z])) := by
    show D.bl (decide _) = _
    simp
  rw [e] at rt
  refine go_seq (go_if (b := (!true || !decide ((([D.str a, D.str b, D.str c].length : Nat) : Int) = 3))) (evt_or (evt_not (evt_b (ev_isT (ev_var rfl).b))) fun _ => evt_test (ev_neI (ev_lenT (ev_var rfl).b).b ev_int.b)) (fun hb => by simp at hb) (fun _ => ?_))
  refine go_next ?_
  ((try dsimp only); refine nx_go ?_)
  refine go_ret (ev_and (ev_allM (xs := [a, b, c]) (g := fun _ => true) (EvO.l (evo_lcTup [.str a, .str b, .str c] (fun _ => .bl true) (ev_var rfl) (gk_name (by decide)) (by decide) (by rw [sizeLine_eq]; simp) fun d hd => ?_))) fun _ => ev_eqD (ev_var rfl).b (ev_var rfl).b rfl rfl (by simp [D.dep, D.deps])) rt
  obtain ⟨l, rfl⟩ : ∃ l, d = .str l := by
    simp only [List.mem_cons, List.not_mem_nil, or_false] at hd
    rcases hd with rfl | rfl | rfl <;> exact ⟨_, rfl⟩
  exact ⟨_, tg_name, ev_isS (ev_var rfl).b⟩
def spLaw (K : PySem.W.Frag) : Sp := fun vs H Q _ => ∃ (a : Addr) (ns : List Int), vs = [.ref a] ∧ SqL K H a (ns.map V.int) ∧ ns.length ≤ 63 ∧ ∀ H', Q (.bl true) H'
theorem reps_ints {K : PySem.W.Frag} {H : Hp} : ∀ ns : List Int, Reps K H (ns.map D.int) (ns.map V.int)
  | [] => Reps.nil
  | n :: ns => Reps.cons Rep.int (reps_ints ns)
theorem cell_int (ns : List Int) (k : Int) : ∃ i, resCell [.lst (ns.map .int), .int k] = .int i := by
  show ∃ i, (ns.map D.int).getD k.toNat (.int 0) = .int i
  rw [List.getD_eq_getElem?_getD, List.getElem?_map]
  cases ns[k.toNat]? <;> exact ⟨_, rfl⟩
theorem take11 (c : List Nat) : cutL c none (some 11) = c.take 11 := by
  unfold cutL
  rw [sIx_at _ _ (by decide)]
  show List.take (min 11 c.length - 0) (List.drop 0 c) = _
  rw [List.drop_zero, Nat.sub_zero]
  rcases Nat.le_total 11 c.length with h | h
  · rw [Nat.min_eq_left h]
  · rw [Nat.min_eq_right h, List.take_of_length_le h, List.take_of_length_le (Nat.le_refl _)]
def fresh (c : List Nat) (x : Nat) : List Nat := c.take 11 ++ (if decide ([x] = [97]) then [98] else [97])
theorem fresh_ok {c : List Nat} {x : Nat} (h : NameOk c) (hx : c.getLast? = some x) : NameOk (fresh c x) ∧ c ≠ fresh c x := by
  obtain ⟨h1, h2, h3⟩ := h
  have hl : (if decide ([x] = [97]) then [98] else [97] : List Nat).length = 1 := by split <;> rfl
  have hlen : (fresh c x).length = min 11 c.length + 1 := by unfold fresh; rw [List.length_append, hl, List.length_take]
  refine ⟨⟨by omega, by omega, fun y hy => ?_⟩, fun e => ?_⟩
  · unfold fresh at hy
    rcases List.mem_append.mp hy with hy | hy
    · exact h3 y (List.mem_of_mem_take hy)
    · split at hy <;> (rw [List.mem_singleton] at hy; subst hy; decide +kernel)
  · have hc : c.length = 12 := by have := congrArg List.length e; rw [hlen] at this; omega
    rw [e] at hx
    unfold fresh at hx
    rw [List.getLast?_append] at hx
    by_cases hxa : x = 97
    · rw [if_pos (by simp [hxa])] at hx
      simp at hx; omega
    · rw [if_neg (by simp [hxa])] at hx
      simp at hx; omega
theorem flds_take : ∀ k, k < 5 → words7.getD k [] ∈ flds := by decide +kernel
theorem prs_drop : ∀ k, k < 7 → 5 ≤ k → words7.getD k [] ∈ prs := by decide +kernel
theorem ok_law (Z : Tx K mg k_FIELDS k_PAIR_FIELDS u_LETTERS u_LONGEST_NAME u_LONGEST_TEXT u_NO_SIGN f_is_name f_is_sign f_is_text f_pair_fact f_fact_of f_law_cell_at f_law_stream f_law_name f_law_text f_law_good f_law d_is_name d_is_sign d_is_text d_pair_fact d_fact_of d_law_cell_at d_law_stream d_law_name d_law_text d_law_good d_law) : FnOk P w K mg base CX0 21 f_law d_law ["_law_script"] (spLaw K) := by
  have G_law_cell_at := ok_law_cell_at (P := P) (w := w) (base := base) Z
  have G_law_name := ok_law_name (P := P) (w := w) (base := base) Z
  have G_law_text := ok_law_text (P := P) (w := w) (base := base) Z
  have G_law_good := ok_law_good (P := P) (w := w) (base := base) Z
  have G_fact_of := ok_fact_of (P := P) (w := w) (base := base) Z
  refine Z.F_law.ok sc_law (fun vs H Q E h => by obtain ⟨a, ns, rfl, _⟩ := h; rfl) (fun cdv A outer s H vs Q E hr h => ⟨_, (pss_cons (ps_for PassesOwn.never rfl (pi_rangeS (c := 3) (by decide) (by decide) (by rfl) Z.z_range (pa_cons pe_int (pa_cons (pe_callB (call_max2 rfl) (by rfl) Z.z_max boot_max (pa_cons pe_int (pa_cons (pe_callB (call_min2 rfl) (by rfl) Z.z_min boot_min (pa_cons (pe_callB call_len_seq (by rfl) Z.z_len boot_len (pa_cons (pv 0) pa_nil)) (pa_cons pe_int pa_nil))) pa_nil))) (pa_cons pe_int pa_nil)))) (pg_name (i := 1) sc_law.nd rfl (Or.inl rfl)) (pss_cons (ps_set (i := 2) sc_law.nd rfl (Or.inl rfl) (pe_call G_law_name (hr.mono (by decide)) (by rfl) Z.M_law_name Z.F_law_name.kp Z.B_law_name .nil pass0 (pa_cons (pe_call G_law_cell_at (hr.mono (by decide)) (by rfl) Z.M_law_cell_at Z.F_law_cell_at.kp Z.B_law_cell_at .nil pass0 (pa_cons (pv 0) (pa_cons (pv 1) pa_nil))) pa_nil)))
      (pss_cons (ps_set (i := 3) sc_law.nd rfl (Or.inl rfl) (pe_call G_law_cell_at (hr.mono (by decide)) (by rfl) Z.M_law_cell_at Z.F_law_cell_at.kp Z.B_law_cell_at .nil pass0 (pa_cons (pv 0) (pa_cons (pe_op op_add (pv 1) pe_int) pa_nil))))
      (pss_cons (ps_set (i := 4) sc_law.nd rfl (Or.inl rfl) (pe_call G_law_cell_at (hr.mono (by decide)) (by rfl) Z.M_law_cell_at Z.F_law_cell_at.kp Z.B_law_cell_at .nil pass0 (pa_cons (pv 0) (pa_cons (pe_op op_add (pv 1) pe_int) pa_nil))))
      (pss_cons (ps_set (i := 5) sc_law.nd rfl (Or.inl rfl) (pe_ix (show IxR _ (rIxL K) from ix_list) (pe_lst (pa_cons pe_str (pa_cons pe_str (pa_cons pe_str (pa_cons pe_str (pa_cons pe_str (pa_cons pe_str (pa_cons pe_str pa_nil)))))))) (pe_op op_mod (pv 3) pe_int) (fun _ _ => rfl)))
      (pss_cons (ps_if (pt_cmpR op_lt (pe_op op_mod (pv 3) pe_int) pe_int (nomark _)) (pss_cons (ps_set (i := 6) sc_law.nd rfl (Or.inl rfl) (pe_call G_law_text (hr.mono (by decide)) (by rfl) Z.M_law_text Z.F_law_text.kp Z.B_law_text .nil pass0 (pa_cons (pv 4) pa_nil)))
      (pss_one (ps_set (i := 7) sc_law.nd rfl (Or.inl rfl) (pe_tup (pa_cons (pv 2) (pa_cons (pv 5) (pa_cons (pv 6) pa_nil))))))) (pss_cons (ps_set (i := 6) sc_law.nd rfl (Or.inl rfl) (pe_call G_law_name (hr.mono (by decide)) (by rfl) Z.M_law_name Z.F_law_name.kp Z.B_law_name .nil pass0 (pa_cons (pv 4) pa_nil)))
      (pss_cons (ps_if (pt_cmpR op_eq (pv 6) (pv 2) (nomark _)) (pss_one (ps_set (i := 6) sc_law.nd rfl (Or.inl rfl) (pe_op op_add_str (pe_slice sl_str (pv 2) po_none (po_some pe_int)) (pe_ix (show IxR _ (rIxL K) from ix_list) (pe_lst (pa_cons pe_str (pa_cons pe_str pa_nil))) (pe_callTy call_int1 (by rfl) Z.z_int boot_int (pa_cons (pe_cmpR op_eq (pe_ix ix_str (pv 2) (pe_un un_neg pe_int) (fun _ _ => rfl)) pe_str (nomark _)) pa_nil)) (fun _ _ => rfl))))) pss_nil)
      (pss_one (ps_set (i := 7) sc_law.nd rfl (Or.inl rfl) (pe_tup (pa_cons (pe_callB (call_minS rfl) (by rfl) Z.z_min boot_min (pa_cons (pv 2) (pa_cons (pv 6) pa_nil))) (pa_cons (pv 5) (pa_cons (pe_callB (call_maxS rfl) (by rfl) Z.z_max boot_max (pa_cons (pv 2) (pa_cons (pv 6) pa_nil))) pa_nil)))))))))
      (pss_one (ps_if (pt_not (pt_val (pe_call G_law_good (hr.mono (by decide)) (by rfl) Z.M_law_good Z.F_law_good.kp Z.B_law_good .nil pass0 (pa_cons (pe_call G_fact_of (hr.mono (by decide)) (by rfl) Z.M_fact_of Z.F_fact_of.kp Z.B_fact_of .nil pass0 (pa_cons (pe_op op_add_str (pe_op op_add_str (pe_op op_add_str (pe_op op_add_str (pv 2) pe_str) (pv 5)) pe_str) (pv 6)) pa_nil)) (pa_cons (pv 7) pa_nil))))) (pss_one (ps_ret pe_bl)) pss_nil))))))))
      (pss_one (ps_ret pe_bl))), ?_⟩)
  obtain ⟨a, ns, rfl, sq, hl, hQ⟩ := h
  have r : Reps K H [.lst (ns.map .int)] [.ref a] := Reps.cons (Rep.lst sq (reps_ints ns)) Reps.nil
  have rt : RtD K H H Q (.bl true) := fun v F H' e r => by rw [r.of_bl]; exact hQ H'
  refine (?_ : Go K H H H _ (slots 8 [.lst (ns.map .int)]) _) H H _ (sat_start (Same.refl H) r (by simp))
  generalize hN0 : (if (if (60 : Int) < ((ns.map D.int).length : Int) then (60 : Int) else ((ns.map D.int).length : Int)) > 1 then (if (60 : Int) < ((ns.map D.int).length : Int) then (60 : Int) else ((ns.map D.int).length : Int)) else 1) = n0
  have hn0 : 0 ≤ n0 ∧ n0 < 2 ^ 30 := by
    rw [← hN0]; rw [List.length_map]; split <;> split <;> omega
  have hcell : ∀ {L0 : Hp} {ss : List Sl} {tk : TE} {k : Int} {EX : XK}, ss[0]? = some (.d (.lst (ns.map .int))) → Ev K H H L0 ss tk (.int k) → 0 ≤ k → Ev K H H L0 ss (tCall (SpD K preCell resCell) [] EX (tCons (tVar 0) (tCons tk tNil))) (resCell [.lst (ns.map .int), .int k]) := fun {L0 ss tk k EX} hs hk h0 =>
    ev_call (pre := preCell) (res := resCell) (evaf_cons (ev_var hs) (evaf_cons hk evaf_nil)) ⟨ns, k, rfl, h0⟩
  refine go_seq (go_rangeS (m := 0) (n := n0) (c := 3) (fun k ss => ∃ v1 v2 v3 v4 v5 v6 v7 : Sl, ss = [.d (.lst (ns.map .int)), v1, v2, v3, v4, v5, v6, v7]) (eva_cons ev_int.b (eva_cons (by rw [← hN0]; exact (ev_maxI ev_int.b (ev_minI (ev_lenL (ev_var rfl).l).b ev_int.b).b).b) (eva_cons ev_int.b eva_nil))) ⟨by decide, by decide, hn0.1, hn0.2⟩ ⟨.un, .un, .un, .un, .un, .un, .un, rfl⟩ ?_ ?_)
  · rintro k ss hk ⟨v1, v2, v3, v4, v5, v6, v7, rfl⟩ N hN
    have hk0 : (0 : Int) ≤ 0 + (k : Int) * 3 := by omega
    generalize (0 : Int) + (k : Int) * 3 = q at hk0
    obtain ⟨c1, e1⟩ := cell_int ns q
    obtain ⟨c2, e2⟩ := cell_int ns (q + 1)
    obtain ⟨c3, e3⟩ := cell_int ns (q + 2)
    refine go_seq (go_asgRD (pre := preI) (R := relN) (ds := [.int c1]) (evaf_cons (by rw [← e1]; exact hcell rfl (ev_var rfl) hk0) evaf_nil) ⟨c1, rfl⟩ fun r hR => ?_)
    obtain ⟨c, rfl, hc⟩ := hR
    refine ⟨_, tg_name, ?_⟩
    ((try dsimp only); refine nx_go ?_)
    refine go_seq (go_set (d := .int c2) (by rw [← e2]; exact hcell rfl (ev_add (ev_var rfl).b ev_int.b) (by omega)) ?_)
    ((try dsimp only); refine nx_go ?_)
    refine go_seq (go_set (d := .int c3) (by rw [← e3]; exact hcell rfl (ev_add (ev_var rfl).b ev_int.b) (by omega)) ?_)
    ((try dsimp only); refine nx_go ?_)
    refine go_seq (go_set (ev_ixL (ds := words7.map D.str) (EvO.l (evo_lst (evaf_cons (ev_str (by decide +kernel) (by decide)) (evaf_cons (ev_str (by decide +kernel) (by decide)) (evaf_cons (ev_str (by decide +kernel) (by decide)) (evaf_cons (ev_str (by decide +kernel) (by decide)) (evaf_cons (ev_str (by decide +kernel) (by decide)) (evaf_cons (ev_str (by decide +kernel) (by decide)) (evaf_cons (ev_str (by decide +kernel) (by decide)) evaf_nil))))))) (small (by decide)))) (ev_mod (ev_var rfl).b ev_int.b (by decide)).b (atS_mod words7 _ rfl (by decide))) ?_)
    ((try dsimp only); refine nx_go ?_)
    have g1 := Int.emod_nonneg c2 (show (7 : Int) ≠ 0 by decide)
    have g2 := Int.emod_lt_of_pos c2 (show (0 : Int) < 7 by decide)
    have hff : c2 % 7 < 5 → words7.getD (c2 % 7).toNat [] ∈ flds := fun h => flds_take _ (by omega)
    have hfp : ¬ c2 % 7 < 5 → words7.getD (c2 % 7).toNat [] ∈ prs := fun h => prs_drop _ (by omega) (by omega)
    generalize words7.getD (c2 % 7).toNat [] = f at hff hfp
    refine go_join (fun ss => ∃ (t : List Nat) (v1 : Sl), ss = [.d (.lst (ns.map .int)), v1, .d (.str c), .d (.int c2), .d (.int c3), .d (.str f), .d (.str t), .d (resFo (c, f, t))] ∧ RowOk (c, f, t)) (fun N' hN' => go_if (evt_test (ev_lt (ev_mod (ev_var rfl).b ev_int.b (by decide)).b ev_int.b)) (fun hb => ?_) (fun hb => ?_)) ?_
    · have hf := hff (of_decide_eq_true hb)
      refine go_seq (go_asgRD (pre := preI) (R := relT) (ds := [.int c3]) (evaf_cons (ev_var rfl) evaf_nil) ⟨c3, rfl⟩ fun r hR => ?_)
      obtain ⟨t, rfl, ht⟩ := hR
      refine ⟨_, tg_name, ?_⟩
      ((try dsimp only); refine nx_go ?_)
      have er : resFo (c, f, t) = .tup [.str c, .str f, .str t] := by unfold resFo; rw [if_neg (fl_not_pr f hf)]
      refine go_set (ev_tup (evaf_cons (ev_var rfl) (evaf_cons (ev_var rfl) (evaf_cons (ev_var rfl) evaf_nil))) (small (by simp))) (hN' _ ⟨t, .d (.int q), by rw [er]; rfl, hc, .inl ⟨hf, ht⟩⟩)
    · have hf := hfp (of_decide_eq_false hb)
      refine go_seq (go_asgRD (pre := preI) (R := relN) (ds := [.int c3]) (evaf_cons (ev_var rfl) evaf_nil) ⟨c3, rfl⟩ fun r hR => ?_)
      obtain ⟨t0, rfl, ht0⟩ := hR
      refine ⟨_, tg_name, ?_⟩
      ((try dsimp only); refine nx_go ?_)
      refine go_join (fun ss => ∃ (t : List Nat), ss = [.d (.lst (ns.map .int)), .d (.int q), .d (.str c), .d (.int c2), .d (.int c3), .d (.str f), .d (.str t), v7] ∧ NameOk t ∧ c ≠ t) (fun N'' hN'' => go_if (evt_test (ev_eqS (ev_var rfl).b (ev_var rfl).b)) (fun hq => ?_) (fun hq => ?_)) ?_
      · obtain ⟨x, hx⟩ : ∃ x, c.getLast? = some x := by
          cases hcl : c.getLast? with
          | none => have := List.getLast?_eq_none_iff.mp hcl; subst this; have := hc.1; simp at this
          | some x => exact ⟨x, rfl⟩
        have hfr := fresh_ok hc hx
        have hcz : c.length ≤ sizeLine := small (by have := hc.2.1; omega)
        have hat : atI [D.str [97], D.str [98]] (if decide ([x] = [97]) then 1 else 0) = some (.str (if decide ([x] = [97]) then [98] else [97])) := by
          cases decide ([x] = [97]) <;> rfl
        refine go_set (d := .str (fresh c x)) ?_ (hN'' _ ⟨fresh c x, rfl, hfr.1, hfr.2⟩)
        unfold fresh
        rw [← take11]
        refine ev_catS (ev_slS (ev_var rfl).b evp_no (evp_part ev_int.b) hcz).b (ev_ixL (ds := [.str [97], .str [98]]) (EvO.l (evo_lst (evaf_cons (ev_str (by decide +kernel) (by decide)) (evaf_cons (ev_str (by decide +kernel) (by decide)) evaf_nil)) (small (by decide)))) (ev_intB (ev_eqS (ev_ixS (ev_var rfl).b (ev_neg ev_int.b).b hcz (atI_neg1 hx)).b (ev_str (l := [97]) (by decide +kernel) (by decide)).b).b).b hat).b ?_
        rw [take11, List.length_take, sizeLine_eq]
        have : (if decide ([x] = [97]) then [98] else [97] : List Nat).length = 1 := by split <;> rfl
        rw [this]; omega
      · have hne : t0 ≠ c := of_decide_eq_false hq
        exact go_next (hN'' _ ⟨t0, rfl, ht0, fun e => hne e.symm⟩)
      · rintro ss ⟨t, rfl, ht, hct⟩
        have er : resFo (c, f, t) = .tup [.str (minL c t), .str f, .str (maxL c t)] := by unfold resFo; rw [if_pos hf]
        exact go_set (ev_tup (evaf_cons (ev_minS (ev_var rfl).b (ev_var rfl).b) (evaf_cons (ev_var rfl) (evaf_cons (ev_maxS (ev_var rfl).b (ev_var rfl).b) evaf_nil))) (small (by simp))) (hN' _ ⟨t, .d (.int q), by rw [er]; rfl, hc, .inr ⟨hf, ht, hct⟩⟩)
    · rintro ss ⟨t, v1, rfl, hrow⟩
      have hl1 := hc.2.1
      have hfl : f.length ≤ 6 := by
        have hm : f ∈ flds ++ prs := by
          rcases hrow.2 with h | h
          · exact List.mem_append_left _ h.1
          · exact List.mem_append_right _ h.1
        exact (fld_plain f hm).2
      have htl : t.length ≤ 40 := by
        rcases hrow.2 with h | h
        · exact h.2.2.1
        · have := h.2.1.2.1; dsimp only at this; omega
      obtain ⟨a1, a2, a3, eres⟩ : ∃ a1 a2 a3, resFo (c, f, t) = .tup [.str a1, .str a2, .str a3] := by
        unfold resFo; split <;> exact ⟨_, _, _, rfl⟩
      have erow : ((c ++ [32] ++ f) ++ [32]) ++ t = rowL (c, f, t) := by unfold rowL; simp
      have egd : resGd [resFo (c, f, t), resFo (c, f, t)] = .bl true := by show D.bl (decide _) = _; simp
      refine go_if (b := !true) (evt_not (evt_b (by
        rw [← egd]
        refine ev_call (pre := preGd) (res := resGd) (evaf_cons (ev_callG (pre := preFo) (res := resFo) (c, f, t) (evaf_cons (by
          rw [← erow]
          exact ev_catS (ev_catS (ev_catS (ev_catS (ev_var rfl).b (ev_str (l := [32]) (by decide +kernel) (by decide)).b (small (by simp; omega))).b (ev_var rfl).b (small (by simp; omega))).b (ev_str (l := [32]) (by decide +kernel) (by decide)).b (small (by simp; omega))).b (ev_var rfl).b (small (by simp; omega))) evaf_nil) ⟨rfl, hrow⟩) (evaf_cons (ev_var rfl) evaf_nil)) ⟨a1, a2, a3, a1, a2, a3, by rw [eres]⟩))) (fun hb => by cases hb) (fun _ => go_next (hN _ ⟨_, _, _, _, _, _, _, rfl⟩))
  · rintro ss ⟨v1, v2, v3, v4, v5, v6, v7, rfl⟩
    ((try dsimp only); refine nx_go ?_)
    exact go_ret ev_bl rt
end
theorem all_mk {l : PySem.W.OpenLaw} {w : World} {K : PySem.W.Frag} {h : Heap} {mg : Str → Option Value} {fa g0 g1 g2 g3 g4 g5 g6 g7 g8 g9 g10 : Addr} (X : K.In h) (G : h.Ns mainGlobals mg) (hfa : mg "law" = some (.ref fa))
    {od0 an0 od1 an1 od2 an2 od3 an3 od4 an4 od5 an5 od6 an6 od7 an7 od8 an8 od9 an9 od10 an10 : Option Addr} {sl0 sl1 sl2 sl3 sl4 sl5 sl6 sl7 sl8 sl9 sl10 : Array (Option Value)} {oc0 kV0 dc0 pm0 cd0 ct0 oc1 kV1 dc1 pm1 cd1 ct1 oc2 kV2 dc2 pm2 cd2 ct2 oc3 kV3 dc3 pm3 cd3 ct3 oc4 kV4 dc4 pm4 cd4 ct4 oc5 kV5 dc5 pm5 cd5 ct5 oc6 kV6 dc6 pm6 cd6 ct6 oc7 kV7 dc7 pm7 cd7 ct7 oc8 kV8 dc8 pm8 cd8 ct8 oc9 kV9 dc9 pm9 cd9 ct9 oc10 kV10 dc10 pm10 cd10 ct10 : Value}
    {q_FIELDS : Addr} {od_FIELDS : Option Addr} {nn_FIELDS : Nat} {sl_FIELDS : Array (Option Value)} {t0_FIELDS t1_FIELDS t2_FIELDS t3_FIELDS t4_FIELDS : Tok} {q_PAIR_FIELDS : Addr} {od_PAIR_FIELDS : Option Addr} {nn_PAIR_FIELDS : Nat} {sl_PAIR_FIELDS : Array (Option Value)} {t0_PAIR_FIELDS t1_PAIR_FIELDS : Tok} {t_LETTERS : Tok} {t_LONGEST_NAME : Tok} {t_LONGEST_TEXT : Tok} {t_NO_SIGN : Tok}
    (a0 : PySem.W.nsIn K mainGlobals "is_name" = some (some (.ref g0))) (l0 : K.lookup g0 = some ⟨oc0, od0, .func (PySem.W.fnOf "is_name" "is_name" (defArgs s_is_name) (defBody s_is_name) (defScope s_is_name) .none kV0 dc0 pm0 an0 cd0 ct0), sl0⟩) (c0 : PySem.W.codeIn K cd0 "is_name" = true) (k0 : PySem.W.keepIn K (.ref g0) = true)
    (a1 : PySem.W.nsIn K mainGlobals "is_sign" = some (some (.ref g1))) (l1 : K.lookup g1 = some ⟨oc1, od1, .func (PySem.W.fnOf "is_sign" "is_sign" (defArgs s_is_sign) (defBody s_is_sign) (defScope s_is_sign) .none kV1 dc1 pm1 an1 cd1 ct1), sl1⟩) (c1 : PySem.W.codeIn K cd1 "is_sign" = true) (k1 : PySem.W.keepIn K (.ref g1) = true)
    (a2 : PySem.W.nsIn K mainGlobals "is_text" = some (some (.ref g2))) (l2 : K.lookup g2 = some ⟨oc2, od2, .func (PySem.W.fnOf "is_text" "is_text" (defArgs s_is_text) (defBody s_is_text) (defScope s_is_text) .none kV2 dc2 pm2 an2 cd2 ct2), sl2⟩) (c2 : PySem.W.codeIn K cd2 "is_text" = true) (k2 : PySem.W.keepIn K (.ref g2) = true)
    (a3 : PySem.W.nsIn K mainGlobals "pair_fact" = some (some (.ref g3))) (l3 : K.lookup g3 = some ⟨oc3, od3, .func (PySem.W.fnOf "pair_fact" "pair_fact" (defArgs s_pair_fact) (defBody s_pair_fact) (defScope s_pair_fact) .none kV3 dc3 pm3 an3 cd3 ct3), sl3⟩) (c3 : PySem.W.codeIn K cd3 "pair_fact" = true) (k3 : PySem.W.keepIn K (.ref g3) = true)
    (a4 : PySem.W.nsIn K mainGlobals "fact_of" = some (some (.ref g4))) (l4 : K.lookup g4 = some ⟨oc4, od4, .func (PySem.W.fnOf "fact_of" "fact_of" (defArgs s_fact_of) (defBody s_fact_of) (defScope s_fact_of) .none kV4 dc4 pm4 an4 cd4 ct4), sl4⟩) (c4 : PySem.W.codeIn K cd4 "fact_of" = true) (k4 : PySem.W.keepIn K (.ref g4) = true)
    (a5 : PySem.W.nsIn K mainGlobals "_law_cell_at" = some (some (.ref g5))) (l5 : K.lookup g5 = some ⟨oc5, od5, .func (PySem.W.fnOf "_law_cell_at" "_law_cell_at" (defArgs s_law_cell_at) (defBody s_law_cell_at) (defScope s_law_cell_at) .none kV5 dc5 pm5 an5 cd5 ct5), sl5⟩) (c5 : PySem.W.codeIn K cd5 "_law_cell_at" = true) (k5 : PySem.W.keepIn K (.ref g5) = true)
    (a6 : PySem.W.nsIn K mainGlobals "_law_stream" = some (some (.ref g6))) (l6 : K.lookup g6 = some ⟨oc6, od6, .func (PySem.W.fnOf "_law_stream" "_law_stream" (defArgs s_law_stream) (defBody s_law_stream) (defScope s_law_stream) .none kV6 dc6 pm6 an6 cd6 ct6), sl6⟩) (c6 : PySem.W.codeIn K cd6 "_law_stream" = true) (k6 : PySem.W.keepIn K (.ref g6) = true)
    (a7 : PySem.W.nsIn K mainGlobals "_law_name" = some (some (.ref g7))) (l7 : K.lookup g7 = some ⟨oc7, od7, .func (PySem.W.fnOf "_law_name" "_law_name" (defArgs s_law_name) (defBody s_law_name) (defScope s_law_name) .none kV7 dc7 pm7 an7 cd7 ct7), sl7⟩) (c7 : PySem.W.codeIn K cd7 "_law_name" = true) (k7 : PySem.W.keepIn K (.ref g7) = true)
    (a8 : PySem.W.nsIn K mainGlobals "_law_text" = some (some (.ref g8))) (l8 : K.lookup g8 = some ⟨oc8, od8, .func (PySem.W.fnOf "_law_text" "_law_text" (defArgs s_law_text) (defBody s_law_text) (defScope s_law_text) .none kV8 dc8 pm8 an8 cd8 ct8), sl8⟩) (c8 : PySem.W.codeIn K cd8 "_law_text" = true) (k8 : PySem.W.keepIn K (.ref g8) = true)
    (a9 : PySem.W.nsIn K mainGlobals "_law_good" = some (some (.ref g9))) (l9 : K.lookup g9 = some ⟨oc9, od9, .func (PySem.W.fnOf "_law_good" "_law_good" (defArgs s_law_good) (defBody s_law_good) (defScope s_law_good) .none kV9 dc9 pm9 an9 cd9 ct9), sl9⟩) (c9 : PySem.W.codeIn K cd9 "_law_good" = true) (k9 : PySem.W.keepIn K (.ref g9) = true)
    (a10 : PySem.W.nsIn K mainGlobals "law" = some (some (.ref g10))) (l10 : K.lookup g10 = some ⟨oc10, od10, .func (PySem.W.fnOf "law" "law" (defArgs s_law) (defBody s_law) (defScope s_law) .none kV10 dc10 pm10 an10 cd10 ct10), sl10⟩) (c10 : PySem.W.codeIn K cd10 "law" = true) (k10 : PySem.W.keepIn K (.ref g10) = true)
    (a_FIELDS : PySem.W.nsIn K mainGlobals "FIELDS" = some (some (.ref q_FIELDS))) (l_FIELDS : K.lookup q_FIELDS = some ⟨.type "tuple", od_FIELDS, .seq #[.str (T [110, 97, 109, 101]) t0_FIELDS, .str (T [102, 111, 114, 109, 101, 114]) t1_FIELDS, .str (T [119, 97, 121]) t2_FIELDS, .str (T [100, 97, 121]) t3_FIELDS, .str (T [109, 97, 114, 107]) t4_FIELDS] nn_FIELDS, sl_FIELDS⟩)
    (a_PAIR_FIELDS : PySem.W.nsIn K mainGlobals "PAIR_FIELDS" = some (some (.ref q_PAIR_FIELDS))) (l_PAIR_FIELDS : K.lookup q_PAIR_FIELDS = some ⟨.type "tuple", od_PAIR_FIELDS, .seq #[.str (T [115, 97, 109, 101]) t0_PAIR_FIELDS, .str (T [97, 112, 97, 114, 116]) t1_PAIR_FIELDS] nn_PAIR_FIELDS, sl_PAIR_FIELDS⟩)
    (a_LETTERS : PySem.W.nsIn K mainGlobals "LETTERS" = some (some (.str (T [97, 98, 99, 100, 101, 102, 103, 104, 105, 106, 107, 108, 109, 110, 111, 112, 113, 114, 115, 116, 117, 118, 119, 120, 121, 122]) t_LETTERS)))
    (a_LONGEST_NAME : PySem.W.nsIn K mainGlobals "LONGEST_NAME" = some (some (.int 12 t_LONGEST_NAME)))
    (a_LONGEST_TEXT : PySem.W.nsIn K mainGlobals "LONGEST_TEXT" = some (some (.int 40 t_LONGEST_TEXT)))
    (a_NO_SIGN : PySem.W.nsIn K mainGlobals "NO_SIGN" = some (some (.int 37 t_NO_SIGN)))
    (y_all : PySem.W.nsIn K mainGlobals "all" = some none)
    (y_int : PySem.W.nsIn K mainGlobals "int" = some none)
    (y_isinstance : PySem.W.nsIn K mainGlobals "isinstance" = some none)
    (y_len : PySem.W.nsIn K mainGlobals "len" = some none)
    (y_max : PySem.W.nsIn K mainGlobals "max" = some none)
    (y_min : PySem.W.nsIn K mainGlobals "min" = some none)
    (y_ord : PySem.W.nsIn K mainGlobals "ord" = some none)
    (y_range : PySem.W.nsIn K mainGlobals "range" = some none)
    (y_str : PySem.W.nsIn K mainGlobals "str" = some none)
    (y_tuple : PySem.W.nsIn K mainGlobals "tuple" = some none) :
    ∃ fd : FuncData, (∀ (s : Shared) (v : Value), BindsTo s fd ⟨[v], []⟩ [("_law_script", v)]) ∧ ∀ base : Heap, K.In base → base.Ns mainGlobals mg → FnOk l.prog w K mg base CX0 21 fa fd ["_law_script"] (spLaw K) := by
  have e := hfa.symm.trans (PySem.W.mg_of X G a10)
  cases e
  have F0 := fun_mk (st := s_is_name) l0 c0 k0
  have b0 := F0.binds (ps := ["text"]) fun _ _ _ _ _ _ us hl => match us, hl with | [_], _ => rfl
  have F1 := fun_mk (st := s_is_sign) l1 c1 k1
  have b1 := F1.binds (ps := ["sign"]) fun _ _ _ _ _ _ us hl => match us, hl with | [_], _ => rfl
  have F2 := fun_mk (st := s_is_text) l2 c2 k2
  have b2 := F2.binds (ps := ["text"]) fun _ _ _ _ _ _ us hl => match us, hl with | [_], _ => rfl
  have F3 := fun_mk (st := s_pair_fact) l3 c3 k3
  have b3 := F3.binds (ps := ["one", "field", "other"]) fun _ _ _ _ _ _ us hl => match us, hl with | [_, _, _], _ => rfl
  have F4 := fun_mk (st := s_fact_of) l4 c4 k4
  have b4 := F4.binds (ps := ["row"]) fun _ _ _ _ _ _ us hl => match us, hl with | [_], _ => rfl
  have F5 := fun_mk (st := s_law_cell_at) l5 c5 k5
  have b5 := F5.binds (ps := ["_law_script", "_law_k"]) fun _ _ _ _ _ _ us hl => match us, hl with | [_, _], _ => rfl
  have F6 := fun_mk (st := s_law_stream) l6 c6 k6
  have b6 := F6.binds (ps := ["_law_cell", "_law_many"]) fun _ _ _ _ _ _ us hl => match us, hl with | [_, _], _ => rfl
  have F7 := fun_mk (st := s_law_name) l7 c7 k7
  have b7 := F7.binds (ps := ["_law_cell"]) fun _ _ _ _ _ _ us hl => match us, hl with | [_], _ => rfl
  have F8 := fun_mk (st := s_law_text) l8 c8 k8
  have b8 := F8.binds (ps := ["_law_cell"]) fun _ _ _ _ _ _ us hl => match us, hl with | [_], _ => rfl
  have F9 := fun_mk (st := s_law_good) l9 c9 k9
  have b9 := F9.binds (ps := ["_law_found", "_law_due"]) fun _ _ _ _ _ _ us hl => match us, hl with | [_, _], _ => rfl
  have F10 := fun_mk (st := s_law) l10 c10 k10
  have b10 := F10.binds (ps := ["_law_script"]) fun _ _ _ _ _ _ us hl => match us, hl with | [_], _ => rfl
  exact ⟨_, fun s v => .of_eq rfl, fun base _ _ => ok_law ⟨PySem.W.mg_of X G a_FIELDS, tupK_of l_FIELDS rfl rfl rfl (by decide) (by decide) (fun i l u h1 h2 => by rcases i with _ | _ | _ | _ | _ | i <;> simp at h1 h2 <;> (subst h1; subst h2; exact ⟨_, rfl⟩)), PySem.W.mg_of X G a_PAIR_FIELDS, tupK_of l_PAIR_FIELDS rfl rfl rfl (by decide) (by decide) (fun i l u h1 h2 => by rcases i with _ | _ | i <;> simp at h1 h2 <;> (subst h1; subst h2; exact ⟨_, rfl⟩)), PySem.W.mg_of X G a_LETTERS, ⟨_, rfl⟩, PySem.W.mg_of X G a_LONGEST_NAME, ⟨_, rfl⟩, PySem.W.mg_of X G a_LONGEST_TEXT, ⟨_, rfl⟩, PySem.W.mg_of X G a_NO_SIGN, ⟨_, rfl⟩, F0, b0, PySem.W.mg_of X G a0, F1, b1, PySem.W.mg_of X G a1, F2, b2, PySem.W.mg_of X G a2, F3, b3, PySem.W.mg_of X G a3, F4, b4, PySem.W.mg_of X G a4, F5, b5, PySem.W.mg_of X G a5, F6, b6, PySem.W.mg_of X G a6, F7, b7, PySem.W.mg_of X G a7, F8, b8, PySem.W.mg_of X G a8, F9, b9, PySem.W.mg_of X G a9, F10, b10, PySem.W.mg_of X G a10, PySem.W.mg_none_of X G y_all, PySem.W.mg_none_of X G y_int, PySem.W.mg_none_of X G y_isinstance, PySem.W.mg_none_of X G y_len, PySem.W.mg_none_of X G y_max, PySem.W.mg_none_of X G y_min, PySem.W.mg_none_of X G y_ord, PySem.W.mg_none_of X G y_range, PySem.W.mg_none_of X G y_str, PySem.W.mg_none_of X G y_tuple⟩⟩
theorem walk {l : PySem.W.OpenLaw} {q : Program} {loose : List Str} {XP : (Str → Option Value) → Heap → Prop} {YP : World → Heap → Prop} {d : DefRec} {K : Params → PySem.W.Frag} (hn : l.most = some 63) (hdf : d.params.defaults = [])
    (hY : ∀ (w : World) (h : Heap), YP w h → (K w.params).In h)
    (F : ∀ (w : World) (mg : Str → Option Value) (fa : Addr) (h : Heap), (K w.params).In h → h.Ns mainGlobals mg → mg d.name = some (.ref fa) →
      ∃ fd : FuncData, (∀ (s : Shared) (u : Value), BindsTo s fd ⟨[u], []⟩ [("_law_script", u)]) ∧ ∀ base : Heap, (K w.params).In base → base.Ns mainGlobals mg → FnOk l.prog w (K w.params) mg base CX0 21 fa fd ["_law_script"] (spLaw (K w.params))) :
    PySem.W.WalkO q loose XP YP l.row.toRowW d [] (fun f vs => PySem.call f vs) :=
  L2.walk_of (n := 63) (k := 21) (x := "_law_script") (CX := fun _ => CX0) (sp := fun w => spLaw (K w.params)) hn (by decide) hdf ⟨rfl, by decide, by decide⟩ hY F (fun _ _ a ns hl _ hS => ⟨a, ns, rfl, hS, hl, fun _ => rfl⟩) fun _ _ _ _ _ z => z
end My
open PySem PySem.W PyProof.Rows
set_option maxRecDepth 100000 in
set_option maxHeartbeats 0 in
theorem PySem.Challenge.cw_folk_k09_rows_of_facts_holds : PySem.Challenge.rw_folk_k09_rows_of_facts.Holds := by
  w_on; o_law; k_head; (case hw => w_witness2)
  k_fill
  refine My.walk (l := PySem.Challenge.rw_folk_k09_rows_of_facts) rfl rfl (fun w h Y => PySem.W.kIn_of Y) ?F
  case F =>
    intro w mg fa h KX G hmg
    refine' My.all_mk KX G hmg ?a0 ?l0 ?c0 ?k0 ?a1 ?l1 ?c1 ?k1 ?a2 ?l2 ?c2 ?k2 ?a3 ?l3 ?c3 ?k3 ?a4 ?l4 ?c4 ?k4 ?a5 ?l5 ?c5 ?k5 ?a6 ?l6 ?c6 ?k6 ?a7 ?l7 ?c7 ?k7 ?a8 ?l8 ?c8 ?k8 ?a9 ?l9 ?c9 ?k9 ?a10 ?l10 ?c10 ?k10 ?a_FIELDS ?l_FIELDS ?a_PAIR_FIELDS ?l_PAIR_FIELDS ?a_LETTERS ?a_LONGEST_NAME ?a_LONGEST_TEXT ?a_NO_SIGN ?y_all ?y_int ?y_isinstance ?y_len ?y_max ?y_min ?y_ord ?y_range ?y_str ?y_tuple
    (case a0 => k_is)
    (case l0 => k_is)
    (case c0 => k_is)
    (case k0 => k_is)
    (case a1 => k_is)
    (case l1 => k_is)
    (case c1 => k_is)
    (case k1 => k_is)
    (case a2 => k_is)
    (case l2 => k_is)
    (case c2 => k_is)
    (case k2 => k_is)
    (case a3 => k_is)
    (case l3 => k_is)
    (case c3 => k_is)
    (case k3 => k_is)
    (case a4 => k_is)
    (case l4 => k_is)
    (case c4 => k_is)
    (case k4 => k_is)
    (case a5 => k_is)
    (case l5 => k_is)
    (case c5 => k_is)
    (case k5 => k_is)
    (case a6 => k_is)
    (case l6 => k_is)
    (case c6 => k_is)
    (case k6 => k_is)
    (case a7 => k_is)
    (case l7 => k_is)
    (case c7 => k_is)
    (case k7 => k_is)
    (case a8 => k_is)
    (case l8 => k_is)
    (case c8 => k_is)
    (case k8 => k_is)
    (case a9 => k_is)
    (case l9 => k_is)
    (case c9 => k_is)
    (case k9 => k_is)
    (case a10 => k_is)
    (case l10 => k_is)
    (case c10 => k_is)
    (case k10 => k_is)
    (case a_FIELDS => k_is)
    (case l_FIELDS => k_is)
    (case a_PAIR_FIELDS => k_is)
    (case l_PAIR_FIELDS => k_is)
    (case a_LETTERS => k_is)
    (case a_LONGEST_NAME => k_is)
    (case a_LONGEST_TEXT => k_is)
    (case a_NO_SIGN => k_is)
    (case y_all => k_is)
    (case y_int => k_is)
    (case y_isinstance => k_is)
    (case y_len => k_is)
    (case y_max => k_is)
    (case y_min => k_is)
    (case y_ord => k_is)
    (case y_range => k_is)
    (case y_str => k_is)
    (case y_tuple => k_is)
