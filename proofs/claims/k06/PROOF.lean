import PyProof.Rows.All
import Wide.All
import OpenK.AllK
import Wide.FinOn
import Lean
import PyProof.EqAt
import PyProof.EqKinds
import PyProof.TupleCall
import KE.KSortTup
import PySem.SetTable
import KE.KDictList
import PyProof.Rows.SeqMore
import PySem.Challenge.RW_folk_k06_near_texts
set_option Elab.async false
set_option linter.all false
set_option maxRecDepth 100000
/-! THE HAND LAYER, for ints, bools, texts, own classes, LISTS and tuples (index, slices, in, append, pop ..), calls, loops. Paste it whole ahead of your own text; what your proof does not reach may be deleted. -/
namespace L2
open PySem PySem.Spec PyProof.Rows

/-- a key: an int or a str -/
abbrev Key := Sum Int Str
def keyIs : Key → Value → Bool
  | .inl k, v => Value.isInt k v
  | .inr x, v => Value.isStrOf x v
def keyH (w : World) : Key → Int
  | .inl k => hashInt k
  | .inr x => hashStr w x
theorem keyIs_shape : ∀ {k : Key} {v : Value}, keyIs k v = true → (∃ i t, k = Sum.inl i ∧ v = Value.int i t) ∨ (∃ x t, k = Sum.inr x ∧ v = Value.str x t)
  | .inl i, v, h => by
    obtain ⟨t, e⟩ := Value.isInt_shape (k := i) (v := v) h
    exact .inl ⟨i, t, rfl, e⟩
  | .inr x, v, h => by
    obtain ⟨t, e⟩ := Value.isStrOf_shape (x := x) (v := v) h
    exact .inr ⟨x, t, rfl, e⟩
theorem keyIs_int (i : Int) (t : Tok) : keyIs (.inl i) (.int i t) = true := by simp [keyIs, Value.isInt]
theorem keyIs_str (x : Str) (t : Tok) : keyIs (.inr x) (.str x t) = true := by simp [keyIs, Value.isStrOf]
theorem key_ll (a b : Int) : decide ((Sum.inl a : Key) = Sum.inl b) = (a == b) := by
  by_cases e : a = b
  · subst e; simp
  · have h : ¬ (Sum.inl a : Key) = Sum.inl b := fun q => e (Sum.inl.inj q)
    rw [decide_eq_false h]
    exact (beq_eq_false_iff_ne.mpr e).symm
theorem key_rr (a b : Str) : decide ((Sum.inr a : Key) = Sum.inr b) = decide (a = b) := by
  by_cases e : a = b
  · subst e; simp
  · have h : ¬ (Sum.inr a : Key) = Sum.inr b := fun q => e (Sum.inr.inj q)
    rw [decide_eq_false h, decide_eq_false e]
theorem key_lr (a : Int) (b : Str) : decide ((Sum.inl a : Key) = Sum.inr b) = false := decide_eq_false (fun q => nomatch q)
theorem key_rl (a : Str) (b : Int) : decide ((Sum.inr a : Key) = Sum.inl b) = false := decide_eq_false (fun q => nomatch q)

def mixKind (prog : Program) (w : World) : PySem.KeyKind prog w Key where
  is := keyIs
  hash := keyH w
  inj := fun v a b ha hb => by
    rcases keyIs_shape ha with ⟨i, t, rfl, rfl⟩ | ⟨x, t, rfl, rfl⟩
    · rcases keyIs_shape hb with ⟨j, u, rfl, e⟩ | ⟨y, u, rfl, e⟩
      · injection e with e1 _; rw [e1]
      · exact nomatch e
    · rcases keyIs_shape hb with ⟨j, u, rfl, e⟩ | ⟨y, u, rfl, e⟩
      · exact nomatch e
      · injection e with e1 _; rw [e1]
  byValue := fun k v h => by
    rcases keyIs_shape h with ⟨i, t, rfl, rfl⟩ | ⟨x, t, rfl, rfl⟩ <;> rfl
  pyHash := fun hv h => by
    rcases keyIs_shape hv with ⟨i, t, rfl, rfl⟩ | ⟨x, t, rfl, rfl⟩
    · exact wpAny_pyHash_int h
    · exact wpAny_pyHash_str h
  eqBool := fun hu hv h => by
    rcases keyIs_shape hu with ⟨i, t, rfl, rfl⟩ | ⟨x, t, rfl, rfl⟩
    · rcases keyIs_shape hv with ⟨j, u, rfl, rfl⟩ | ⟨y, u, rfl, rfl⟩
      · rw [key_ll] at h; exact wpAny_eqBool_int h
      · rw [key_lr] at h; exact SeqAt.EqAt.int_str i t y u _ _ _ _ h
    · rcases keyIs_shape hv with ⟨j, u, rfl, rfl⟩ | ⟨y, u, rfl, rfl⟩
      · rw [key_rl] at h; exact SeqAt.EqAt.str_int x t j u _ _ _ _ h
      · rw [key_rr] at h; exact wpAny_eqBool_str h
  «strs» := fun k x t v h => by
    rcases keyIs_shape h with ⟨i, u, rfl, e⟩ | ⟨y, u, rfl, e⟩
    · exact nomatch e
    · injection e with e1 _
      subst e1
      cases v <;> rfl

theorem mixKind_int (prog : Program) (w : World) (i : Int) (t : Tok) : (mixKind prog w).is (.inl i) (.int i t) = true := keyIs_int i t
theorem mixKind_str (prog : Program) (w : World) (x : Str) (t : Tok) : (mixKind prog w).is (.inr x) (.str x t) = true := keyIs_str x t
end L2

namespace L2
open PySem PySem.Spec PyProof.Rows

/-- a value, without the heap -/
inductive V where
  | non | bl (b : Bool) | int (i : Int) | str (x : Str) | byt (b : Array UInt8) | flt (b : UInt64) | ref (a : Addr) | ty (n : String)
  deriving DecidableEq

def RelV : V → Value → Prop
  | .non, u => u = Value.none
  | .bl b, u => u = Value.bool b
  | .int i, u => ∃ t, u = Value.int i t
  | .str x, u => ∃ t, u = Value.str x t
  | .byt b, u => ∃ t, u = Value.bytes b t
  | .flt b, u => ∃ t, u = Value.float b t
  | .ref a, u => u = Value.ref a
  | .ty n, u => u = Value.type n

abbrev Vals : List V → List Value → Prop := Paired RelV
theorem Vals.length {xs : List V} {us : List Value} (r : Vals xs us) : xs.length = us.length := Paired.length r
theorem Vals.get : ∀ {xs : List V} {us : List Value} {i : Nat} {x : V}, Vals xs us → xs[i]? = some x → ∃ u, us[i]? = some u ∧ RelV x u
  | _, _, _, _, .nil, e => by simp at e
  | _, _, 0, _, .cons r _, e => by simp at e; subst e; exact ⟨_, rfl, r⟩
  | _, _, i + 1, x, .cons _ t, e => by
    obtain ⟨u, h1, h2⟩ := Vals.get (i := i) (x := x) t (by simpa using e)
    exact ⟨u, by simpa using h1, h2⟩
theorem Vals.set {x : V} {u : Value} (r : RelV x u) : ∀ {xs : List V} {us : List Value} (i : Nat), Vals xs us → Vals (xs.set i x) (us.set i u)
  | _, _, _, .nil => .nil
  | _, _, 0, .cons _ t => .cons r t
  | _, _, i + 1, .cons q t => .cons q (Vals.set r i t)
theorem Vals.append : ∀ {xs ys : List V} {us ws : List Value}, Vals xs us → Vals ys ws → Vals (xs ++ ys) (us ++ ws)
  | _, _, _, _, .nil, s => s
  | _, _, _, _, .cons r t, s => .cons r (Vals.append t s)
theorem Vals.take : ∀ {xs : List V} {us : List Value} (n : Nat), Vals xs us → Vals (xs.take n) (us.take n)
  | _, _, 0, _ => .nil
  | _, _, _ + 1, .nil => .nil
  | _, _, n + 1, .cons r t => .cons r (Vals.take n t)
theorem Vals.drop : ∀ {xs : List V} {us : List Value} (n : Nat), Vals xs us → Vals (xs.drop n) (us.drop n)
  | _, _, 0, r => r
  | _, _, _ + 1, .nil => .nil
  | _, _, n + 1, .cons _ t => Vals.drop n t
def RelO : Option V → Option Value → Prop
  | some v, some u => RelV v u
  | none, none => True
  | _, _ => False
def KV {κ : Type} : List (κ × V) → List (κ × Value) → Prop := Paired fun (p : κ × V) (q : κ × Value) => p.1 = q.1 ∧ RelV p.2 q.2

/-- a key of a dict (00_mix): an int or a text -/
def kV : Key → V
  | .inl i => .int i
  | .inr x => .str x

/-- what stands at a tracked address -/
inductive HO where
  /-- a list -/
  | lst (xs : List V)
  /-- a tuple (never changes) -/
  | tup (xs : List V)
  /-- a dict whose keys are ints and texts; one whose keys are tuples of ints and texts (the empty one is both) -/
  | dK (kvs : List (Key × V)) | dT (kvs : List (List Key × V))
  /-- a set of ints: its members, its size -/
  | set (S : Int → Bool) (n : Nat)
  /-- an instance of the class at C, its dict at dx, its attributes -/
  | ins (C dx : Addr) (fs : List (Str × V))
  /-- the dict of the instance at x -/
  | own (x : Addr)
  /-- the dict of an exception -/
  | xd (fs : List (Str × V))
  /-- a bound method, f of x -/
  | met (f x : Addr)
  /-- a range object lo, lo + 1, .. below hi -/
  | rng (lo hi : Int)
  /-- a thing that is known to the object (the script; a dict while a loop walks it): read, never written while it is so -/
  | frz (o : Obj) (u : HO)
  /-- a code object's table -/
  | tbl (ps : Array Value)
  /-- any other thing, by what is true of its one object (a def of one's own: SetO a S n := HO.ext fun h => ..) -/
  | ext (φ : Heap → Prop)

abbrev Hp := Addr → Option HO
def upd (H : Hp) (a : Addr) (o : HO) : Hp := fun b => if b = a then some o else H b
theorem upd_same {H : Hp} {a : Addr} {o : HO} : upd H a o a = some o := by unfold upd; rw [if_pos rfl]
theorem upd_ne {H : Hp} {a b : Addr} {o : HO} (h : b ≠ a) : upd H a o b = H b := by unfold upd; rw [if_neg h]
theorem ne_of_none {H : Hp} {a b : Addr} {o : HO} (h : H a = some o) (h' : H b = none) : a ≠ b := by
  intro e; subst e; rw [h] at h'; cases h'

section
variable (P : Program) (w : World)
def ObjOk (H : Hp) (h : Heap) (a : Addr) : HO → Prop
  | .lst xs => xs.length ≤ sizeLine ∧ ∃ (its : List Value) (n : Nat), Vals xs its ∧ h.get? a = some { cls := .type "list", data := .seq its.toArray n }
  | .tup xs => xs.length ≤ sizeLine ∧ ∃ its : List Value, Vals xs its ∧ IsTup h a its.toArray
  | .dK kvs => kvs.length ≤ sizeLine ∧ (a == sysModules) = false ∧ ∃ vs, KV kvs vs ∧ h.DictOf (mixKind P w) a vs
  | .dT kvs => kvs.length ≤ sizeLine ∧ (a == sysModules) = false ∧ ∃ xs : List (List Key × Addr × Value),
      Paired (fun (p : List Key × V) (q : List Key × Addr × Value) => p.1 = q.1 ∧ H q.2.1 = some (.tup (p.1.map kV)) ∧ RelV p.2 q.2.2) kvs xs ∧
      ∃ o es ep, h.get? a = some o ∧ o.ExactDict ∧ o.data = .dict es ep ∧ es.toList = xs.map (entryOfKey (tupleKind (mixKind P w))) ∧ (xs.map (·.1)).Nodup
  | .set S n => h.SetOf (intKind P w) a S n
  | .ins C dx fs => H dx = some (.own a) ∧ fs.length ≤ 1000 ∧ dx ≠ a ∧ h.get? a = some (PySem.W.instObj C dx) ∧
      ∃ mA, h.Ns1 dx mA ∧ (∀ f, RelO (fs.lookup f) (mA f)) ∧ PySem.Within mA (fs.map (·.1))
  | .own _ => ∃ o, h.get? a = some o
  | .xd fs => ∃ mA, h.Ns1 a mA ∧ ∀ f, RelO (fs.lookup f) (mA f)
  | .rng lo hi => ∃ t u v, h.get? a = some { cls := .type "range", data := .fields #[.int lo t, .int hi u, .int 1 v] }
  | .frz o u => h.get? a = some o ∧ ObjOk H h a u
  | .tbl ps => h.get? a = some { cls := .none, data := .fields ps }
  | .met f x => h.get? a = some (PySem.W.methodObj (.ref f) (.ref x))
  | .ext φ => φ h ∧ (∃ o, h.get? a = some o) ∧ ∀ h1 h2 : Heap, φ h1 → (∀ o, h1.get? a = some o → h2.get? a = some o) → φ h2
/-- the abstract heap is held -/
def HOk (H : Hp) (h : Heap) : Prop := ∀ a o, H a = some o → ObjOk P w H h a o
end

section
variable {P : Program} {w : World} {H H' : Hp} {h h' : Heap} {a : Addr} {o : HO}
theorem ObjOk.lt (x : ObjOk P w H h a o) : a < h.objs.size := by
  cases o with
  | lst xs => obtain ⟨_, _, _, _, e⟩ := x; exact Heap.lt_size e
  | tup xs => obtain ⟨_, _, _, p⟩ := x; exact p.lt
  | dK kvs => obtain ⟨_, _, _, _, o, _, _, e, _⟩ := x; exact Heap.lt_size e
  | dT kvs => obtain ⟨_, _, _, _, o, _, _, e, _⟩ := x; exact Heap.lt_size e
  | set S n => obtain ⟨o, _, _, _, e, _⟩ := x; exact Heap.lt_size e
  | ins C dx fs => obtain ⟨_, _, _, e, _⟩ := x; exact Heap.lt_size e
  | own y => obtain ⟨_, e⟩ := x; exact Heap.lt_size e
  | xd fs => obtain ⟨_, ⟨_, _, _, e, _⟩, _⟩ := x; exact Heap.lt_size e
  | rng lo hi => obtain ⟨_, _, _, e⟩ := x; exact Heap.lt_size e
  | frz ob u => obtain ⟨e, _⟩ := x; exact Heap.lt_size e
  | tbl ps => exact Heap.lt_size (show h.get? a = some _ from x)
  | met f y => exact Heap.lt_size (show h.get? a = some _ from x)
  | ext φ => obtain ⟨_, ⟨_, e⟩, _⟩ := x; exact Heap.lt_size e
theorem Paired.mapP {α β : Type} {F G : α → β → Prop} : ∀ {l₁ : List α} {l₂ : List β}, Paired F l₁ l₂ → (∀ a b, F a b → G a b) → Paired G l₁ l₂
  | _, _, .nil, _ => .nil
  | _, _, .cons r t, f => .cons (f _ _ r) (Paired.mapP t f)
/-- what an object's description leans on: its own object, its own dict, the tuples -/
theorem ObjOk.stay (x : ObjOk P w H h a o) (k : ∀ b u, (b = a ∨ H b = some (.own a)) → h.get? b = some u → h'.get? b = some u)
    (ho : ∀ b, H b = some (.own a) → H' b = some (.own a)) (ht : ∀ b xs, H b = some (.tup xs) → H' b = some (.tup xs)) : ObjOk P w H' h' a o := by
  induction o with
  | lst xs => obtain ⟨z, its, n, r, e⟩ := x; exact ⟨z, its, n, r, k _ _ (.inl rfl) e⟩
  | tup xs => obtain ⟨z, its, r, ob, e, c⟩ := x; exact ⟨z, its, r, ob, k _ _ (.inl rfl) e, c⟩
  | dK kvs => obtain ⟨z, y, vs, r, ob, es, ep, e, c⟩ := x; exact ⟨z, y, vs, r, ob, es, ep, k _ _ (.inl rfl) e, c⟩
  | dT kvs =>
    obtain ⟨z, y, xs, r, ob, es, ep, e, c⟩ := x
    exact ⟨z, y, xs, Paired.mapP r fun p q z => ⟨z.1, ht _ _ z.2.1, z.2.2⟩, ob, es, ep, k _ _ (.inl rfl) e, c⟩
  | set S n => obtain ⟨ob, es, ep, t, e, c⟩ := x; exact ⟨ob, es, ep, t, k _ _ (.inl rfl) e, c⟩
  | ins C dx fs =>
    obtain ⟨d, z, ne, e, mA, ⟨od, es, ep, e2, c⟩, r⟩ := x
    exact ⟨ho _ d, z, ne, k _ _ (.inl rfl) e, mA, ⟨od, es, ep, k _ _ (.inr d) e2, c⟩, r⟩
  | own y => obtain ⟨ob, e⟩ := x; exact ⟨ob, k _ _ (.inl rfl) e⟩
  | xd fs => obtain ⟨mA, ⟨od, es, ep, e, c⟩, r⟩ := x; exact ⟨mA, ⟨od, es, ep, k _ _ (.inl rfl) e, c⟩, r⟩
  | rng lo hi => obtain ⟨t, u, v, e⟩ := x; exact ⟨t, u, v, k _ _ (.inl rfl) e⟩
  | frz ob u ih => obtain ⟨e, q⟩ := x; exact ⟨k _ _ (.inl rfl) e, ih q⟩
  | tbl ps =>
    have e : h.get? a = some { cls := .none, data := .fields ps } := x
    show h'.get? a = some { cls := .none, data := .fields ps }
    exact k a _ (.inl rfl) e
  | met f y =>
    have e : h.get? a = some (PySem.W.methodObj (.ref f) (.ref y)) := x
    show h'.get? a = some (PySem.W.methodObj (.ref f) (.ref y))
    exact k a _ (.inl rfl) e
  | ext φ => obtain ⟨p, ⟨o, e⟩, st⟩ := x; exact ⟨st _ _ p fun o q => k _ _ (.inl rfl) q, ⟨o, k _ _ (.inl rfl) e⟩, st⟩
theorem HOk.lt (x : HOk P w H h) (e : H a = some o) : a < h.objs.size := (x a o e).lt
theorem HOk.fresh (x : HOk P w H h) (e : h.objs.size ≤ a) : H a = none := by
  cases q : H a with
  | none => rfl
  | some u => exact absurd (Nat.lt_of_lt_of_le (x.lt q) e) (Nat.lt_irrefl _)
/-- every object of the heap is kept -/
theorem HOk.kept (x : HOk P w H h) (k : ∀ b u, h.get? b = some u → h'.get? b = some u) : HOk P w H h' := fun a o e =>
  (x a o e).stay (fun b u _ q => k b u q) (fun _ q => q) fun _ _ q => q
/-- a new object is laid and tracked -/
theorem HOk.laid (x : HOk P w H h) (k : ∀ b u, h.get? b = some u → h'.get? b = some u) (hp : h.objs.size ≤ a) (new : ObjOk P w (upd H a o) h' a o) : HOk P w (upd H a o) h' := fun b u e => by
  have hn := x.fresh hp
  by_cases hb : b = a
  · subst hb; rw [upd_same] at e; cases e; exact new
  · rw [upd_ne hb] at e
    exact (x b u e).stay (fun c v _ q => k c v q) (fun c q => by rw [upd_ne (ne_of_none q hn)]; exact q) fun c xs q => by rw [upd_ne (ne_of_none q hn)]; exact q
end

/-- what may be read as u: it is u, or a known u -/
def Rd (H : Hp) (a : Addr) (u : HO) : Prop := H a = some u ∨ ∃ o, H a = some (.frz o u)
theorem Rd.of {H : Hp} {a : Addr} {u : HO} (h : H a = some u) : Rd H a u := .inl h
theorem Rd.ok {P : Program} {w : World} {H : Hp} {h : Heap} {a : Addr} {u : HO} (r : Rd H a u) (x : HOk P w H h) : ObjOk P w H h a u := by
  rcases r with r | ⟨o, r⟩
  · exact x a u r
  · obtain ⟨_, q⟩ := x a _ r
    exact q
/-- what may be written -/
def Mut : Option HO → Prop
  | some (.lst _) => True
  | some (.dK _) => True
  | some (.dT _) => True
  | some (.set _ _) => True
  | some (.ins _ _ _) => True
  | some (.ext _) => True
  | _ => False
section
variable {P : Program} {w : World} {H : Hp} {h h' : Heap} {x e : Addr} {o' : HO}
/-- the object at e is changed: x itself, or the dict of the instance x -/
theorem HOk.write (ok : HOk P w H h) (mu : Mut (H x)) (he : e = x ∨ H e = some (.own x)) (k : ∀ b u, b ≠ e → h.get? b = some u → h'.get? b = some u) (heo : ∃ u, h'.get? e = some u)
    (new : ObjOk P w (upd H x o') h' x o') : HOk P w (upd H x o') h' := fun b u q => by
  have nown : ∀ c y, H c = some (.own y) → c ≠ x := fun c y r z => by subst z; rw [r] at mu; exact mu
  have ntup : ∀ c xs, H c = some (.tup xs) → c ≠ x := fun c xs r z => by subst z; rw [r] at mu; exact mu
  by_cases hb : b = x
  · subst hb; rw [upd_same] at q; cases q; exact new
  · rw [upd_ne hb] at q
    by_cases hbe : b = e
    · have q' : H b = some (.own x) := by
        rcases he with z | z
        · exact absurd (hbe.trans z) hb
        · rw [hbe]; exact z
      rw [q] at q'; cases q'
      obtain ⟨v, hv⟩ := heo
      exact ⟨v, by rw [hbe]; exact hv⟩
    · refine (ok b u q).stay (fun c v hc r => k c v ?_ r) (fun c r => by rw [upd_ne (nown c b r)]; exact r) fun c xs r => by rw [upd_ne (ntup c xs r)]; exact r
      rcases hc with rfl | hc
      · exact hbe
      · rintro rfl
        rcases he with z | z
        · exact nown c b hc z
        · rw [hc] at z; cases z; exact hb rfl
end

/-! ### kept unless tracked; of the frames at fs (the callers') the slots may change (an exception that passes writes there); of the records at ex (iterators) nothing is said -/
structure Un (fs ex : List Addr) (H H' : Hp) (h h' : Heap) : Prop where
  keep : ∀ b o, h.get? b = some o → H b = none → b ∉ fs → b ∉ ex → h'.get? b = some o
  slot : ∀ b o, h.get? b = some o → H b = none → b ∈ fs → b ∉ ex → ∃ sl, h'.get? b = some { o with slots := sl }
  free : ∀ b o, h.get? b = some o → H b = none → b ∉ ex → H' b = none
  there : ∀ b o, h.get? b = some o → b ∉ ex → ∃ o', h'.get? b = some o'
  tups : ∀ b xs, H b = some (.tup xs) → H' b = some (.tup xs)
  frzs : ∀ b o u, H b = some (.frz o u) → H' b = some (.frz o u)
  tbls : ∀ b ps, H b = some (.tbl ps) → ∃ more, H' b = some (.tbl (ps ++ more))
section
variable {fs fs' ex ex' : List Addr} {H H1 H2 : Hp} {h h1 h2 h' : Heap} {a x e : Addr} {o : HO}
theorem Un.any (u : Un fs ex H H1 h h1) {b : Addr} {ob : Obj} (q : h.get? b = some ob) (n : H b = none) (hx : b ∉ ex) : ∃ sl, h1.get? b = some { ob with slots := sl } := by
  by_cases hb : b ∈ fs
  · exact u.slot b ob q n hb hx
  · exact ⟨ob.slots, u.keep b ob q n hb hx⟩
theorem Un.trans (a : Un fs ex H H1 h h1) (b : Un fs ex H1 H2 h1 h2) : Un fs ex H H2 h h2 where
  keep := fun c ob q n hc hx => b.keep c ob (a.keep c ob q n hc hx) (a.free c ob q n hx) hc hx
  slot := fun c ob q n hc hx => by
    obtain ⟨sl, e1⟩ := a.slot c ob q n hc hx
    obtain ⟨sl', e2⟩ := b.slot c _ e1 (a.free c ob q n hx) hc hx
    exact ⟨sl', e2⟩
  free := fun c ob q n hx => by
    obtain ⟨o', e1⟩ := a.there c ob q hx
    exact b.free c o' e1 (a.free c ob q n hx) hx
  there := fun c ob q hx => by
    obtain ⟨o', e1⟩ := a.there c ob q hx
    exact b.there c o' e1 hx
  tups := fun c xs q => b.tups c xs (a.tups c xs q)
  frzs := fun c ob xs q => b.frzs c ob xs (a.frzs c ob xs q)
  tbls := fun c ps q => by
    obtain ⟨m1, e1⟩ := a.tbls c ps q
    obtain ⟨m2, e2⟩ := b.tbls c _ e1
    exact ⟨m1 ++ m2, by rw [e2, Array.append_assoc]⟩
theorem Un.kept (k : ∀ b u, h.get? b = some u → h'.get? b = some u) : Un fs ex H H h h' :=
  ⟨fun b ob q _ _ _ => k b ob q, fun b ob q _ _ _ => ⟨ob.slots, k b ob q⟩, fun _ _ _ n _ => n, fun b ob q _ => ⟨ob, k b ob q⟩, fun _ _ q => q, fun _ _ _ q => q, fun _ ps q => ⟨#[], by rw [q]; simp⟩⟩
theorem Un.refl : Un fs ex H H h h := Un.kept fun _ _ q => q
theorem Un.laid (k : ∀ b u, h.get? b = some u → h'.get? b = some u) (hp : h.objs.size ≤ a) (hn : H a = none) : Un fs ex H (upd H a o) h h' where
  keep := fun b u q _ _ _ => k b u q
  slot := fun b u q _ _ _ => ⟨u.slots, k b u q⟩
  free := fun b u q n _ => by rw [upd_ne (Nat.ne_of_lt (Nat.lt_of_lt_of_le (Heap.lt_size q) hp))]; exact n
  there := fun b u q _ => ⟨u, k b u q⟩
  tups := fun b xs q => by rw [upd_ne (ne_of_none q hn)]; exact q
  frzs := fun b u xs q => by rw [upd_ne (ne_of_none q hn)]; exact q
  tbls := fun b ps q => ⟨#[], by rw [upd_ne (ne_of_none q hn), q]; simp⟩
theorem Un.write (mu : Mut (H x)) (he : e = x ∨ H e = some (.own x)) (k : ∀ b u, b ≠ e → h.get? b = some u → h'.get? b = some u) (heo : ∃ u, h'.get? e = some u) : Un fs ex H (upd H x o) h h' := by
  have hx : ∀ b, H b = none → b ≠ x := fun b n z => by subst z; rw [n] at mu; exact mu
  have hb : ∀ b, H b = none → b ≠ e := fun b n z => by
    subst z
    rcases he with r | r
    · exact hx b n r
    · rw [n] at r; cases r
  have hm : ∀ b u, H b = some u → ¬ Mut (some u) → b ≠ x := fun b u q nm z => by subst z; rw [q] at mu; exact nm mu
  refine ⟨fun b u q n _ _ => k b u (hb b n) q, fun b u q n _ _ => ⟨u.slots, k b u (hb b n) q⟩, fun b u q n _ => by rw [upd_ne (hx b n)]; exact n, fun b u q _ => ?_,
    fun b xs q => by rw [upd_ne (hm b _ q fun z => z)]; exact q, fun b u xs q => by rw [upd_ne (hm b _ q fun z => z)]; exact q, fun b ps q => ⟨#[], by rw [upd_ne (hm b _ q fun z => z), q]; simp⟩⟩
  by_cases hbe : b = e
  · subst hbe; exact heo
  · exact ⟨u, k b u hbe q⟩
theorem Un.mono (u : Un fs ex H H1 h h1) (hs : ∀ b ∈ fs, b ∈ fs') (hx : ∀ b ∈ ex, b ∈ ex') : Un fs' ex' H H1 h h1 :=
  ⟨fun b ob q n hb he => u.keep b ob q n (fun z => hb (hs b z)) fun z => he (hx b z), fun _ _ q n _ he => u.any q n fun z => he (hx _ z), fun b ob q n he => u.free b ob q n fun z => he (hx b z), fun b ob q he => u.there b ob q fun z => he (hx b z), u.tups, u.frzs, u.tbls⟩
end

/-! ### the heap without what is tracked -/
def trk (h : Heap) (H : Hp) : List Addr := (List.range h.objs.size).filter fun a => (H a).isSome
def hidT (h : Heap) (H : Hp) : Heap := PySem.W.hideAll h (trk h H)
theorem hidT_size (h : Heap) (H : Hp) : (hidT h H).objs.size = h.objs.size := PySem.W.hideAll_size _ _
theorem hidT_get {h : Heap} {H : Hp} {b : Addr} {o : Obj} (e : h.get? b = some o) (n : H b = none) : (hidT h H).get? b = some o :=
  PySem.W.hideAll_get _ e fun hm => by
    have q : (H b).isSome = true := (List.mem_filter.mp hm).2
    rw [n] at q; simp at q
theorem of_hidT {h : Heap} {H : Hp} {b : Addr} {o : Obj} (e : (hidT h H).get? b = some o) : h.get? b = some o ∧ H b = none := by
  have e' : h.get? b = some o := PySem.W.of_hideAll (trk h H) e
  refine ⟨e', ?_⟩
  cases q : H b with
  | none => rfl
  | some x =>
    have hm : b ∈ trk h H := List.mem_filter.mpr ⟨List.mem_range.mpr (Heap.lt_size e'), by simp [q]⟩
    have z : (hidT h H).get? b = none := PySem.W.hideAll_none (trk h H) hm
    rw [z] at e; cases e

/-! ### OpenK's ledger, filled with every new object but one -/
def allNews (g h : Heap) (L : Addr) : List (Addr × Obj) := (List.range h.objs.size).filterMap fun a => if a = L ∨ (g.get? a).isSome = true then none else (h.get? a).map fun o => (a, o)
def rest (g h : Heap) (L d : Addr) : List (Addr × Obj) := (allNews g h L).filter fun p => decide (p.1 ≠ d)
end L2

namespace L2
open PySem PySem.Spec PyProof.Rows

/-- the module's facts, over the base: the heap at the law's entry without what is tracked there -/
structure Mod (K : PySem.W.Frag) (mg : Str → Option Value) (base : Heap) : Prop where
  kin : K.In base
  glob : base.Ns mainGlobals mg
  blt : ∃ mb, base.Ns builtinsNs mb ∧ ∀ x : Str, x ≠ "__name__" → mb x = bootBuiltins x
  nolimit : base.NoLimit

/-- the context: a def's body (or a comprehension's block) running. base: fixed through the whole law; s₀, H₀: the entry; outer: the frames whose slots others may change (a def's callers); stack: all frames that run;
   ex: iterators that were made ahead of the entry and are walked here (a comprehension's); fn: the names whose cells were made at the entry (a def: all; a comprehension's block: its own); calm: not within an except suite; pn: pins that every state bears; xe: what is wanted of an exception that leaves the code -/
structure Cx where
  prog : Program
  w : World
  K : PySem.W.Frag
  mg : Str → Option Value
  base : Heap
  A : Around
  N : List Str
  s₀ : Shared
  H₀ : Hp
  env : Env
  outer : List Env
  stack : List Env
  ex : List Addr
  fn : Str → Bool
  calm : Bool
  pn : List (Addr × Obj)
  xe : Value → Shared → Prop
/-- the callers' frames -/
def frs (l : List Env) : List Addr := l.filterMap (·.frame)
abbrev Cx.fs (X : Cx) : List Addr := frs X.outer

def Vis (sc : Scope) (x : Str) : Prop := sc.names.lookup x = some .local ∨ sc.names.lookup x = some .cell ∨ sc.names.lookup x = some .free
def Loc (sc : Scope) (x : Str) : Prop := sc.names.lookup x = some .local ∨ sc.names.lookup x = some .cell
def Look (env : Env) (h : Heap) (m : Str → Option Value) (x : Str) (u : Value) : Prop :=
  (env.kindOf x = some .local ∧ m x = some u) ∨ ((env.kindOf x = some .cell ∨ env.kindOf x = some .free) ∧ ∃ c, env.cells.lookup x = some c ∧ h.IsCell c (some u))

structure Cx.Ok (X : Cx) : Prop where
  mod : Mod X.K X.mg X.base
  kind : X.env.scope.kind = .function
  glob : X.env.globals = mainGlobals
  blt : X.env.builtins = builtinsNs
  above : X.s₀.heap.objs.size ≤ X.env.locals
  inj : ∀ x y c, X.env.cells.lookup x = some c → X.env.cells.lookup y = some c → x = y
  has : ∀ x, (X.env.kindOf x = some .cell ∨ X.env.kindOf x = some .free) → ∃ c, X.env.cells.lookup x = some c
  cab : ∀ x c, X.fn x = true → X.env.cells.lookup x = some c → X.s₀.heap.objs.size ≤ c
  hd : X.calm = true → X.A.handled = none
  frames : X.A.frames = some X.stack
  stk : X.stack = X.outer ∨ (X.stack = X.env :: X.outer ∧ X.env.frame = some X.env.locals)
  exf : ∀ b ∈ X.ex, b ≠ X.env.locals ∧ ∀ x c, X.env.cells.lookup x = some c → c ≠ b
  bs : ∀ b o, X.base.get? b = some o → X.s₀.heap.get? b = some o ∧ X.H₀ b = none
  bsz : X.base.objs.size ≤ X.s₀.heap.objs.size
  noex : ∀ b o, X.base.get? b = some o → b ∉ X.ex
  exfs : ∀ b ∈ X.ex, b ∉ X.fs
  funs : X.s₀.heap.FunFrames X.base X.outer
  frf : ∀ b ∈ X.fs, X.H₀ b = none

structure Inv (X : Cx) (pins : List (Addr × Obj)) (σ : List (Option V)) (H : Hp) (s : Shared) : Prop where
  ok : X.Ok
  os : s.os = X.s₀.os
  bare : AllBare s.gens
  base : Un X.fs X.ex X.H₀ H X.s₀.heap s.heap
  loc : ∃ m, s.heap.Ns X.env.locals m ∧ ∀ (i : Nat) (x : Str) (v : V), X.N[i]? = some x → σ[i]? = some (some v) → Vis X.env.scope x → ∃ u, RelV v u ∧ Look X.env s.heap m x u
  cell : ∀ x c, X.env.cells.lookup x = some c → ∃ v, s.heap.IsCell c v
  free : H X.env.locals = none
  freeC : ∀ x c, X.env.cells.lookup x = some c → H c = none
  pin : ∀ p ∈ X.pn ++ pins, s.heap.get? p.1 = some p.2 ∧ H p.1 = none ∧ p.1 ≠ X.env.locals ∧ p.1 ∉ X.fs ∧ ∀ v, p.2.data ≠ .cell v
  hok : HOk X.prog X.w H s.heap
  len : σ.length = X.N.length

section
variable {X : Cx} {pins : List (Addr × Obj)} {σ : List (Option V)} {H H' : Hp} {s : Shared} {h' : Heap}

theorem Cx.Ok.nofr (ok : X.Ok) {b : Addr} {o : Obj} (e : X.base.get? b = some o) : b ∉ X.fs := fun hb => by
  have := (ok.funs.mem hb).1
  rw [e] at this; cases this
theorem Inv.bs (I : Inv X pins σ H s) : ∀ b o, X.base.get? b = some o → s.heap.get? b = some o ∧ H b = none := fun b o e =>
  ⟨I.base.keep b o (I.ok.bs b o e).1 (I.ok.bs b o e).2 (I.ok.nofr e) (I.ok.noex b o e), I.base.free b o (I.ok.bs b o e).1 (I.ok.bs b o e).2 (I.ok.noex b o e)⟩
theorem Inv.bk (I : Inv X pins σ H s) : ∀ b o, X.base.get? b = some o → s.heap.get? b = some o := fun b o e => (I.bs b o e).1
theorem Inv.mod (I : Inv X pins σ H s) : Mod X.K X.mg X.base := I.ok.mod
theorem Inv.kIn (I : Inv X pins σ H s) : X.K.In s.heap := I.ok.mod.kin.keeps I.bk
theorem Inv.nolimit (I : Inv X pins σ H s) : s.heap.NoLimit := I.ok.mod.nolimit.keeps I.bk
/-- the frame over the base: for OpenK's rules (K.In X.base is I.mod.kin) -/
theorem Inv.fr (I : Inv X pins σ H s) : ∃ m, Fr X.base X.env.locals s.heap m :=
  let ⟨m, hn, _⟩ := I.loc
  ⟨m, hn, I.bk, Nat.le_trans I.ok.bsz I.ok.above⟩
theorem Inv.lt (I : Inv X pins σ H s) : X.env.locals < s.heap.objs.size := let ⟨_, hn, _⟩ := I.loc; hn.lt
theorem Inv.sz (I : Inv X pins σ H s) : X.s₀.heap.objs.size ≤ s.heap.objs.size := Nat.le_trans I.ok.above (Nat.le_of_lt I.lt)
theorem Inv.nofs (I : Inv X pins σ H s) {a : Addr} (h : s.heap.objs.size ≤ a) : a ∉ X.fs := fun hb => by
  obtain ⟨_, o, ho, _⟩ := I.ok.funs.mem hb
  exact absurd (Nat.lt_of_lt_of_le (Heap.lt_size ho) (Nat.le_trans I.sz h)) (Nat.lt_irrefl _)
theorem Inv.cne (I : Inv X pins σ H s) : ∀ x c, X.env.cells.lookup x = some c → c ≠ X.env.locals := fun x c e z => by
  obtain ⟨v, o, ho, hd⟩ := I.cell x c e
  obtain ⟨m, ⟨o', es, ep, ho', hd', _⟩, _⟩ := I.loc
  rw [z, ho'] at ho; cases ho; rw [hd'] at hd; cases hd
theorem Inv.funs (I : Inv X pins σ H s) : s.heap.FunFrames X.base X.outer := by
  have all : ∀ (l : List Env), (∀ b ∈ frs l, b ∈ X.fs) → X.s₀.heap.FunFrames X.base l → s.heap.FunFrames X.base l := by
    intro l
    induction l with
    | nil => intro _ _; trivial
    | cons env r ih =>
      intro hs hl
      obtain ⟨hk, ⟨L, o, hf, hn, ho, hd⟩, hr⟩ := hl
      have hL : L ∈ X.fs := hs L (by unfold frs; rw [List.filterMap_cons, hf]; exact List.mem_cons_self)
      obtain ⟨sl, e⟩ := I.base.slot L o ho (I.ok.frf L hL) hL fun z => I.ok.exfs L z hL
      exact ⟨hk, ⟨L, _, hf, hn, e, hd⟩, ih (fun b hb => hs b (by unfold frs; rw [List.filterMap_cons, hf]; exact List.mem_cons_of_mem _ hb)) hr⟩
  exact all X.outer (fun _ hb => hb) I.ok.funs

/-- the frames that run, for a call -/
theorem Inv.stack (I : Inv X pins σ H s) : s.heap.FunFrames X.base X.stack := by
  rcases I.ok.stk with e | ⟨e, hf⟩
  · rw [e]; exact I.funs
  · rw [e]
    obtain ⟨m, hn, _⟩ := I.loc
    refine .cons (by rw [I.ok.kind]; decide) hf hn ?_ I.funs
    exact Heap.get?_none_of_le (Nat.le_trans I.ok.bsz I.ok.above)
theorem Inv.stkSub (I : Inv X pins σ H s) : ∀ b ∈ frs X.stack, b ∈ X.env.locals :: X.fs := fun b hb => by
  rcases I.ok.stk with e | ⟨e, hf⟩
  · rw [e] at hb; exact List.mem_cons_of_mem _ hb
  · rw [e] at hb
    unfold frs at hb
    rw [List.filterMap_cons, hf] at hb
    exact hb
theorem Inv.stkFree (I : Inv X pins σ H s) : ∀ b ∈ frs X.stack, H b = none := fun b hb => by
  rcases List.mem_cons.mp (I.stkSub b hb) with e | hb
  · rw [e]; exact I.free
  · obtain ⟨_, o, ho, _⟩ := I.ok.funs.mem hb
    exact I.base.free b o ho (I.ok.frf b hb) fun z => I.ok.exfs b z hb

/-- THE STEP: the untracked objects but the frame and the records at ch are kept (the callers' frames up to slots), the frame's map is kept, the new abstract heap is held -/
theorem Inv.step {g' : Array GenState} {t' : Nat} {d' : Drawn} {ch : List Addr} (I : Inv X pins σ H s)
    (hch : ∀ b ∈ ch, (b ∈ X.ex ∨ X.s₀.heap.objs.size ≤ b) ∧ b ≠ X.env.locals ∧ (∀ x c, X.env.cells.lookup x = some c → c ≠ b) ∧ ∀ p ∈ X.pn ++ pins, p.1 ≠ b)
    (keep : ∀ b o, b ≠ X.env.locals → b ∉ X.fs → b ∉ ch → s.heap.get? b = some o → H b = none → h'.get? b = some o)
    (slot : ∀ b o, b ≠ X.env.locals → b ∈ X.fs → b ∉ ch → s.heap.get? b = some o → H b = none → ∃ sl, h'.get? b = some { o with slots := sl }) (free : ∀ b o, b ∉ ch → s.heap.get? b = some o → H b = none → H' b = none)
    (there : ∀ b o, b ∉ ch → s.heap.get? b = some o → ∃ o', h'.get? b = some o')
    (tups : ∀ b xs, H b = some (.tup xs) → H' b = some (.tup xs)) (frzs : ∀ b o u, H b = some (.frz o u) → H' b = some (.frz o u)) (tbls : ∀ b ps, H b = some (.tbl ps) → ∃ more, H' b = some (.tbl (ps ++ more)))
    (ns : ∀ m, s.heap.Ns X.env.locals m → h'.Ns X.env.locals m) (hok : HOk X.prog X.w H' h') (hg : AllBare g') :
    Inv X pins σ H' { s with heap := h', gens := g', drawn := d', toks := t' } := by
  have neL : ∀ b o, X.s₀.heap.get? b = some o → b ≠ X.env.locals := fun b o e => Nat.ne_of_lt (Nat.lt_of_lt_of_le (Heap.lt_size e) I.ok.above)
  have neC : ∀ b o, X.s₀.heap.get? b = some o → b ∉ X.ex → b ∉ ch := fun b o e hx hb => by
    rcases (hch b hb).1 with z | z
    · exact hx z
    · exact absurd (Nat.lt_of_lt_of_le (Heap.lt_size e) z) (Nat.lt_irrefl _)
  have cellK : ∀ x c, X.env.cells.lookup x = some c → ∀ v, s.heap.IsCell c v → h'.IsCell c v := fun x c e v ⟨o, ho, hd⟩ => by
    have nch : c ∉ ch := fun z => (hch c z).2.2.1 x c e rfl
    by_cases hc : c ∈ X.fs
    · obtain ⟨sl, q⟩ := slot c o (I.cne x c e) hc nch ho (I.freeC x c e)
      exact ⟨_, q, hd⟩
    · exact ⟨o, keep c o (I.cne x c e) hc nch ho (I.freeC x c e), hd⟩
  refine ⟨I.ok, I.os, hg, ⟨fun b o e n hb hx => ?_, fun b o e n hb hx => ?_, fun b o e n hx => ?_, fun b o e hx => ?_, fun b xs e => tups b xs (I.base.tups b xs e), fun b o xs e => frzs b o xs (I.base.frzs b o xs e), fun b ps e => ?_⟩, ?_, fun x c e => ?_, ?_, fun x c e => ?_, fun p hp => ?_, hok, I.len⟩
  · exact keep b o (neL b o e) hb (neC b o e hx) (I.base.keep b o e n hb hx) (I.base.free b o e n hx)
  · obtain ⟨sl, e1⟩ := I.base.slot b o e n hb hx
    obtain ⟨sl', e2⟩ := slot b _ (neL b o e) hb (neC b o e hx) e1 (I.base.free b o e n hx)
    exact ⟨sl', e2⟩
  · obtain ⟨o', e1⟩ := I.base.there b o e hx
    exact free b o' (neC b o e hx) e1 (I.base.free b o e n hx)
  · obtain ⟨o', e1⟩ := I.base.there b o e hx
    exact there b o' (neC b o e hx) e1
  · obtain ⟨m1, e1⟩ := I.base.tbls b ps e
    obtain ⟨m2, e2⟩ := tbls b _ e1
    exact ⟨m1 ++ m2, by rw [e2, Array.append_assoc]⟩
  · obtain ⟨m, hn, hl⟩ := I.loc
    refine ⟨m, ns m hn, fun i x v e1 e2 e3 => ?_⟩
    obtain ⟨u, r, l⟩ := hl i x v e1 e2 e3
    refine ⟨u, r, ?_⟩
    rcases l with l | ⟨k, c, e, z⟩
    · exact .inl l
    · exact .inr ⟨k, c, e, cellK x c e _ z⟩
  · obtain ⟨v, z⟩ := I.cell x c e
    exact ⟨v, cellK x c e v z⟩
  · obtain ⟨m, ⟨o, _, _, ho, _⟩, _⟩ := I.loc
    exact free _ o (fun z => (hch _ z).2.1 rfl) ho I.free
  · obtain ⟨v, o, ho, hd⟩ := I.cell x c e
    exact free c o (fun z => (hch c z).2.2.1 x c e rfl) ho (I.freeC x c e)
  · obtain ⟨e, n, ne, nf, d⟩ := I.pin p hp
    have nch : p.1 ∉ ch := fun z => (hch p.1 z).2.2.2 p hp rfl
    exact ⟨keep p.1 p.2 ne nf nch e n, free p.1 p.2 nch e n, ne, nf, d⟩
/-- .. where the frame's own object is kept too -/
theorem Inv.un {t' : Nat} (I : Inv X pins σ H s) (u : Un X.fs [] H H' s.heap h') (hok : HOk X.prog X.w H' h') : Inv X pins σ H' { s with heap := h', toks := t' } := by
  obtain ⟨m, ⟨o, es, ep, ho, r⟩, _⟩ := id I.loc
  obtain ⟨sl, hL⟩ := u.any ho I.free (by simp)
  exact I.step (g' := s.gens) (d' := s.drawn) (ch := []) (fun _ z => nomatch z) (fun b o _ hb _ e n => u.keep b o e n hb (by simp)) (fun b o _ hb _ e n => u.slot b o e n hb (by simp)) (fun b o _ e n => u.free b o e n (by simp)) (fun b o _ e => u.there b o e (by simp)) u.tups u.frzs u.tbls (fun m' hm => by
    obtain ⟨o', es', ep', ho', r'⟩ := hm
    rw [ho] at ho'; cases ho'
    exact ⟨_, es', ep', hL, r'⟩) hok I.bare
/-- behind a call (or a comprehension's block): the slots of this frame may have changed too, the records at ch may have turned -/
theorem Inv.call {g' : Array GenState} {t' : Nat} {d' : Drawn} {ch : List Addr} (I : Inv X pins σ H s) (u : Un (frs X.stack) ch H H' s.heap h') (hok : HOk X.prog X.w H' h') (hg : AllBare g')
    (hch : ∀ b ∈ ch, (b ∈ X.ex ∨ X.s₀.heap.objs.size ≤ b) ∧ b ≠ X.env.locals ∧ (∀ x c, X.env.cells.lookup x = some c → c ≠ b) ∧ ∀ p ∈ X.pn ++ pins, p.1 ≠ b) :
    Inv X pins σ H' { s with heap := h', gens := g', drawn := d', toks := t' } := by
  obtain ⟨m, ⟨o, es, ep, ho, r⟩, _⟩ := id I.loc
  obtain ⟨sl, hL⟩ := u.any ho I.free fun z => (hch _ z).2.1 rfl
  exact I.step (ch := ch) hch (fun b o hL hb hc e n => u.keep b o e n (fun z => (List.mem_cons.mp (I.stkSub b z)).elim hL hb) hc) (fun b o _ _ hc e n => u.any e n hc) (fun b o hc e n => u.free b o e n hc) (fun b o hc e => u.there b o e hc) u.tups u.frzs u.tbls (fun m' hm => by
    obtain ⟨o', es', ep', ho', r'⟩ := hm
    rw [ho] at ho'; cases ho'
    exact ⟨_, es', ep', hL, r'⟩) hok hg
/-- an untracked record of ours (an iterator) has turned -/
theorem Inv.turned {t' : Nat} {it : Addr} (I : Inv X pins σ H s) (k : ∀ b o, b ≠ it → s.heap.get? b = some o → h'.get? b = some o) (hn : H it = none) (hL : it ≠ X.env.locals)
    (h1 : it ∈ X.ex ∨ X.s₀.heap.objs.size ≤ it) (h2 : ∀ x c, X.env.cells.lookup x = some c → c ≠ it) (h3 : ∀ p ∈ X.pn ++ pins, p.1 ≠ it) : Inv X pins σ H { s with heap := h', toks := t' } := by
  have nit : ∀ b u, H b = some u → b ≠ it := fun b u e z => by rw [z, hn] at e; cases e
  refine I.step (g' := s.gens) (d' := s.drawn) (ch := [it]) (fun b hb => ?_) (fun b o _ _ hc e _ => k b o (fun z => hc (by simp [z])) e) (fun b o _ _ hc e _ => ⟨o.slots, k b o (fun z => hc (by simp [z])) e⟩) (fun _ _ _ _ n => n)
    (fun b o hc e => ⟨o, k b o (fun z => hc (by simp [z])) e⟩) (fun _ _ e => e) (fun _ _ _ e => e) (fun b ps e => ⟨#[], by rw [e]; simp⟩) (fun m hm => ?_) (fun b u e => ?_) I.bare
  · have e : b = it := by simpa using hb
    subst e
    exact ⟨h1, hL, h2, h3⟩
  · obtain ⟨o, es, ep, ho, r⟩ := hm
    exact ⟨o, es, ep, k _ o (Ne.symm hL) ho, r⟩
  · refine (I.hok b u e).stay (fun c v hc q => k c v ?_ q) (fun _ q => q) fun _ _ q => q
    rcases hc with z | z
    · rw [z]; exact nit b u e
    · exact nit c _ z
theorem Inv.tok (I : Inv X pins σ H s) (t : Nat) : Inv X pins σ H { s with toks := t } := I.un (h' := s.heap) (t' := t) Un.refl I.hok
/-- all objects kept -/
theorem Inv.kept {t' : Nat} (I : Inv X pins σ H s) (k : ∀ b u, s.heap.get? b = some u → h'.get? b = some u) : Inv X pins σ H { s with heap := h', toks := t' } := I.un (Un.kept k) (I.hok.kept k)
/-- a new object laid and tracked -/
theorem Inv.laid {a : Addr} {o : HO} {t' : Nat} (I : Inv X pins σ H s) (k : ∀ b u, s.heap.get? b = some u → h'.get? b = some u) (hp : s.heap.objs.size ≤ a) (new : ObjOk X.prog X.w (upd H a o) h' a o) :
    Inv X pins σ (upd H a o) { s with heap := h', toks := t' } := I.un (Un.laid k hp (I.hok.fresh hp)) (I.hok.laid k hp new)
/-- an object written -/
theorem Inv.write {x e : Addr} {o : HO} {t' : Nat} (I : Inv X pins σ H s) (mu : Mut (H x)) (he : e = x ∨ H e = some (.own x)) (k : ∀ b u, b ≠ e → s.heap.get? b = some u → h'.get? b = some u) (heo : ∃ u, h'.get? e = some u)
    (new : ObjOk X.prog X.w (upd H x o) h' x o) : Inv X pins σ (upd H x o) { s with heap := h', toks := t' } := I.un (Un.write mu he k heo) (I.hok.write mu he k heo new)
/-- forgetting slots, pins -/
theorem Inv.weak {σ' : List (Option V)} (I : Inv X pins σ H s) (hl : σ'.length = σ.length) (w : ∀ (i : Nat) v, σ'[i]? = some (some v) → σ[i]? = some (some v)) : Inv X pins σ' H s :=
  ⟨I.ok, I.os, I.bare, I.base, let ⟨m, hn, hl'⟩ := I.loc; ⟨m, hn, fun i x v e1 e2 e3 => hl' i x v e1 (w i v e2) e3⟩, I.cell, I.free, I.freeC, I.pin, I.hok, hl.trans I.len⟩
theorem Inv.pins_of {pins' : List (Addr × Obj)} (I : Inv X pins σ H s) (h : ∀ p ∈ pins', s.heap.get? p.1 = some p.2 ∧ H p.1 = none ∧ p.1 ≠ X.env.locals ∧ p.1 ∉ X.fs ∧ ∀ v, p.2.data ≠ .cell v) : Inv X pins' σ H s :=
  ⟨I.ok, I.os, I.bare, I.base, I.loc, I.cell, I.free, I.freeC, fun p hp => (List.mem_append.mp hp).elim (fun z => I.pin p (List.mem_append_left _ z)) (h p), I.hok, I.len⟩

theorem nodup_ix {N : List Str} (hN : N.Nodup) {i j : Nat} {x : Str} (a : N[i]? = some x) (b : N[j]? = some x) : i = j := by
  obtain ⟨h1, e1⟩ := List.getElem?_eq_some_iff.mp a
  obtain ⟨h2, e2⟩ := List.getElem?_eq_some_iff.mp b
  exact (List.getElem_inj hN).mp (e1.trans e2.symm)

/-- a name is stored; what changed -/
theorem store_ok2 {M : Model} {A : Around} {E : Value → Shared → Prop} {i : Nat} {x : Str} {v : V} {u : Value} {Q : Unit → Shared → Prop} (I : Inv X pins σ H s) (hN : X.N.Nodup) (hi : X.N[i]? = some x) (hx : Loc X.env.scope x) (r : RelV v u)
    (h : ∀ s', Inv X pins (σ.set i (some v)) H s' → (∃ a, Heap.SameBut a s.heap s'.heap ∧ (a = X.env.locals ∨ X.env.cells.lookup x = some a)) → Q () s') (hf : X.fn x = true ∨ X.env.scope.names.lookup x = some .local := by first | exact .inl rfl | exact .inr rfl | assumption) : wpAny M A (storeName X.env x u) Q E s := by
  obtain ⟨m, hn, hl⟩ := id I.loc
  have hcls : (X.env.scope.kind == .class || (X.env.scope.kind == .module && X.env.locals != X.env.globals)) = false := by rw [I.ok.kind]; rfl
  have hiσ : i < σ.length := by rw [I.len]; exact (List.getElem?_eq_some_iff.mp hi).1
  have cne := I.cne
  have tracked : ∀ {a : Addr} {h' : Heap}, (∃ o, s.heap.get? a = some o ∧ H a = none) → Heap.SameBut a s.heap h' → HOk X.prog X.w H h' := fun {a h'} ha hs b ob e => by
    obtain ⟨_, _, hfree⟩ := ha
    refine (I.hok b ob e).stay (fun c w' hc q => (hs.2 c ?_).trans q) (fun _ q => q) fun _ _ q => q
    rintro rfl
    rcases hc with rfl | hc
    · rw [hfree] at e; cases e
    · rw [hfree] at hc; cases hc
  rcases hx with hk | hk
  · refine wpAny_storeName_local hk hn (fun h' hn' hs => ?_) hcls
    obtain ⟨oL, _, _, hoL, _⟩ := id hn
    refine h _ ⟨I.ok, I.os, I.bare, ⟨fun b o e n hb hx => ?_, fun b o e n hb hx => ?_, I.base.free, fun b o e hx => ?_, I.base.tups, I.base.frzs, I.base.tbls⟩, ⟨_, hn', fun j y v' e1 e2 e3 => ?_⟩, fun y c e => ?_, I.free, I.freeC, fun p hp => ?_, tracked ⟨oL, hoL, I.free⟩ hs, by simpa using I.len⟩ ⟨_, hs, .inl rfl⟩
    · exact (hs.2 b (Nat.ne_of_lt (Nat.lt_of_lt_of_le (Heap.lt_size e) I.ok.above))).trans (I.base.keep b o e n hb hx)
    · obtain ⟨sl, e1⟩ := I.base.slot b o e n hb hx
      exact ⟨sl, (hs.2 b (Nat.ne_of_lt (Nat.lt_of_lt_of_le (Heap.lt_size e) I.ok.above))).trans e1⟩
    · obtain ⟨o', e1⟩ := I.base.there b o e hx
      exact ⟨o', (hs.2 b (Nat.ne_of_lt (Nat.lt_of_lt_of_le (Heap.lt_size e) I.ok.above))).trans e1⟩
    · by_cases hj : j = i
      · subst hj
        rw [hi] at e1; cases e1
        rw [List.getElem?_set_self hiσ] at e2
        cases e2
        exact ⟨u, r, .inl ⟨hk, by simp⟩⟩
      · rw [List.getElem?_set_ne (Ne.symm hj)] at e2
        obtain ⟨u', r', q⟩ := hl j y v' e1 e2 e3
        refine ⟨u', r', ?_⟩
        rcases q with ⟨k, e⟩ | ⟨k, c, e, z⟩
        · refine .inl ⟨k, ?_⟩
          have : y ≠ x := fun e => hj (nodup_ix hN e1 (e ▸ hi))
          simp [this, e]
        · exact .inr ⟨k, c, e, z.sameBut hs (cne y c e)⟩
    · obtain ⟨w', z⟩ := I.cell y c e
      exact ⟨w', z.sameBut hs (cne y c e)⟩
    · obtain ⟨e, n, ne, nf, d⟩ := I.pin p hp
      exact ⟨(hs.2 p.1 ne).trans e, n, ne, nf, d⟩
  · have hfn : X.fn x = true := by
      rcases hf with z | z
      · exact z
      · rw [z] at hk; cases hk
    obtain ⟨c, hc⟩ := I.ok.has x (.inl hk)
    obtain ⟨w', z⟩ := I.cell x c hc
    refine wpAny_storeName_cell I.ok.kind hk hc z (fun h' hc' hs => ?_)
    obtain ⟨oc, hoc, hocd⟩ := id z
    refine h { s with heap := h' } ⟨I.ok, I.os, I.bare, ⟨fun b o e n hb hx => ?_, fun b o e n hb hx => ?_, I.base.free, fun b o e hx => ?_, I.base.tups, I.base.frzs, I.base.tbls⟩, ⟨m, hn.sameBut hs (Ne.symm (cne x c hc)), fun j y v' e1 e2 e3 => ?_⟩, fun y c' e => ?_, I.free, I.freeC, fun p hp => ?_, tracked ⟨oc, hoc, I.freeC x c hc⟩ hs, by simpa using I.len⟩ ⟨c, hs, .inr hc⟩
    · exact (hs.2 b (Nat.ne_of_lt (Nat.lt_of_lt_of_le (Heap.lt_size e) (I.ok.cab x c hfn hc)))).trans (I.base.keep b o e n hb hx)
    · obtain ⟨sl, e1⟩ := I.base.slot b o e n hb hx
      exact ⟨sl, (hs.2 b (Nat.ne_of_lt (Nat.lt_of_lt_of_le (Heap.lt_size e) (I.ok.cab x c hfn hc)))).trans e1⟩
    · obtain ⟨o', e1⟩ := I.base.there b o e hx
      exact ⟨o', (hs.2 b (Nat.ne_of_lt (Nat.lt_of_lt_of_le (Heap.lt_size e) (I.ok.cab x c hfn hc)))).trans e1⟩
    · by_cases hj : j = i
      · subst hj
        rw [hi] at e1; cases e1
        rw [List.getElem?_set_self hiσ] at e2
        cases e2
        exact ⟨u, r, .inr ⟨.inl hk, c, hc, hc'⟩⟩
      · rw [List.getElem?_set_ne (Ne.symm hj)] at e2
        obtain ⟨u', r', q⟩ := hl j y v' e1 e2 e3
        refine ⟨u', r', ?_⟩
        rcases q with q | ⟨k, c', e, z'⟩
        · exact .inl q
        · refine .inr ⟨k, c', e, z'.sameBut hs ?_⟩
          rintro rfl
          exact hj (nodup_ix hN e1 (I.ok.inj _ _ _ e hc ▸ hi))
    · by_cases hcc : c' = c
      · subst hcc; exact ⟨_, hc'⟩
      · obtain ⟨w2, z2⟩ := I.cell y c' e
        exact ⟨w2, z2.sameBut hs hcc⟩
    · obtain ⟨e, n, ne, nf, d⟩ := I.pin p hp
      refine ⟨(hs.2 p.1 ?_).trans e, n, ne, nf, d⟩
      intro q
      rw [q, hoc] at e
      have q' : oc = p.2 := Option.some.inj e
      exact d w' (by rw [← q']; exact hocd)
theorem store_ok {M : Model} {A : Around} {E : Value → Shared → Prop} {i : Nat} {x : Str} {v : V} {u : Value} {Q : Unit → Shared → Prop} (I : Inv X pins σ H s) (hN : X.N.Nodup) (hi : X.N[i]? = some x) (hx : Loc X.env.scope x) (r : RelV v u)
    (h : ∀ s', Inv X pins (σ.set i (some v)) H s' → Q () s') (hf : X.fn x = true ∨ X.env.scope.names.lookup x = some .local := by first | exact .inl rfl | exact .inr rfl | assumption) : wpAny M A (storeName X.env x u) Q E s :=
  store_ok2 I hN hi hx r (fun s' I' _ => h s' I') hf
/-- behind a call or a block, the state as it is -/
theorem Inv.call' {s' : Shared} {ch : List Addr} (I : Inv X pins σ H s) (ho : s'.os = s.os) (u : Un (frs X.stack) ch H H' s.heap s'.heap) (hok : HOk X.prog X.w H' s'.heap) (hg : AllBare s'.gens)
    (hch : ∀ b ∈ ch, (b ∈ X.ex ∨ X.s₀.heap.objs.size ≤ b) ∧ b ≠ X.env.locals ∧ (∀ x c, X.env.cells.lookup x = some c → c ≠ b) ∧ ∀ p ∈ X.pn ++ pins, p.1 ≠ b) : Inv X pins σ H' s' := by
  obtain ⟨h', g', d', t', o'⟩ := s'
  have e : o' = s.os := ho
  subst e
  exact I.call (g' := g') (t' := t') (d' := d') u hok hg hch
end

/-! ### the judgements -/
/-- an exception: its class, its own dict's address (where it has one), the abstract heap behind it -/
abbrev XK := Value → Option Addr → Hp → Prop
abbrev St := List (Option V)
abbrev VK := V → Hp → Prop
/-- an expression's reading; a test's; an argument list's -/
abbrev TE := St → Hp → VK → Prop
abbrev TT := St → Hp → (Bool → Hp → Prop) → Prop
abbrev TA := St → Hp → (List V → Hp → Prop) → Prop
/-- what is wanted behind a statement -/
structure Ends where
  nx : St → Hp → Prop
  rt : VK
  bk : St → Hp → Prop := fun _ _ => False
  ct : St → Hp → Prop := fun _ _ => False
abbrev TS := Ends → St → Hp → Prop

def EP (X : Cx) (pins : List (Addr × Obj)) (σ : St) (Q : VK) (u : Value) (s' : Shared) : Prop := ∃ v H', Inv X pins σ H' s' ∧ RelV v u ∧ Q v H'
def TP (X : Cx) (pins : List (Addr × Obj)) (σ : St) (Q : Bool → Hp → Prop) (b : Bool) (s' : Shared) : Prop := ∃ H', Inv X pins σ H' s' ∧ Q b H'
def AP (X : Cx) (pins : List (Addr × Obj)) (σ : St) (Q : List V → Hp → Prop) (us : List Value) (s' : Shared) : Prop := ∃ vs H', Inv X pins σ H' s' ∧ Vals vs us ∧ Q vs H'
def SP (X : Cx) (pins : List (Addr × Obj)) (D : Ends) (f : Flow) (s' : Shared) : Prop :=
  match f with
  | .next => ∃ σ' H', Inv X pins σ' H' s' ∧ D.nx σ' H'
  | .brk => ∃ σ' H', Inv X pins σ' H' s' ∧ D.bk σ' H'
  | .cont => ∃ σ' H', Inv X pins σ' H' s' ∧ D.ct σ' H'
  | .ret u => ∃ v σ' H', Inv X pins σ' H' s' ∧ RelV v u ∧ D.rt v H'

def PE (X : Cx) (e : Expr) (t : TE) : Prop :=
  ∀ (pins : List (Addr × Obj)) (s : Shared) (σ : St) (H : Hp) (Q : VK), Inv X pins σ H s → t σ H Q → wpAny (model X.prog X.w) X.A (eval e X.env) (EP X pins σ Q) X.xe s
def PT (X : Cx) (e : Expr) (t : TT) : Prop :=
  ∀ (pins : List (Addr × Obj)) (s : Shared) (σ : St) (H : Hp) (Q : Bool → Hp → Prop), Inv X pins σ H s → t σ H Q → wpAny (model X.prog X.w) X.A (isTrue e X.env (eval e X.env)) (TP X pins σ Q) X.xe s
/-- a test whatever its 'whole' is (and, or) -/
def PW (X : Cx) (e : Expr) (t : TT) : Prop :=
  ∀ (whole : Sem Value) (pins : List (Addr × Obj)) (s : Shared) (σ : St) (H : Hp) (Q : Bool → Hp → Prop), Inv X pins σ H s → t σ H Q → wpAny (model X.prog X.w) X.A (isTrue e X.env whole) (TP X pins σ Q) X.xe s
theorem PW.pt {X : Cx} {e : Expr} {t : TT} (h : PW X e t) : PT X e t := h _
/-- an argument list (no star), from the left -/
def PA (X : Cx) (es : List Expr) (t : TA) : Prop :=
  ∀ (pos : Pos) (pins : List (Addr × Obj)) (s : Shared) (σ : St) (H : Hp) (Q : List V → Hp → Prop), Inv X pins σ H s → t σ H Q → wpAny (model X.prog X.w) X.A (spliced (backTo pos (starEach es X.env))) (AP X pins σ Q) X.xe s
def PS (X : Cx) (st : Stmt) (t : TS) : Prop :=
  ∀ (pins : List (Addr × Obj)) (s : Shared) (σ : St) (H : Hp) (D : Ends), Inv X pins σ H s → t D σ H → wpAny (model X.prog X.w) X.A (exec st X.env) (SP X pins D) X.xe s
def PSs (X : Cx) (st : List Stmt) (t : TS) : Prop :=
  ∀ (pins : List (Addr × Obj)) (s : Shared) (σ : St) (H : Hp) (D : Ends), Inv X pins σ H s → t D σ H → wpAny (model X.prog X.w) X.A (execs st X.env) (SP X pins D) X.xe s
/-- weaken the end -/
theorem thn {α : Type} {t : Sem α} {Q Q' : α → Shared → Prop} {M : Model} {A : Around} {E : Value → Shared → Prop} {s : Shared} (h : wpAny M A t Q E s) (hQ : ∀ a s, Q a s → Q' a s) : wpAny M A t Q' E s := wpAny_mono h hQ fun _ _ x => x
end L2

namespace L2
open PySem PySem.Spec PyProof.Rows
section
variable {X : Cx}

/-! ### names and constants -/
def tVar (i : Nat) : TE := fun σ H Q => ∃ v, σ[i]? = some (some v) ∧ Q v H
def tC (v : V) : TE := fun _ H Q => Q v H
theorem pe_var {i : Nat} {x : Str} {pos : Pos} (hN : X.N[i]? = some x) (hv : Vis X.env.scope x) (hd : (x == ("__debug__" : Str)) = false := by decide) (hcd : (x == ("__classdict__" : Str)) = false := by decide) : PE X (.Name x pos) (tVar i) := by
  intro pins s σ H Q I h
  obtain ⟨v, e, h⟩ := h
  obtain ⟨m, hn, hl⟩ := I.loc
  obtain ⟨u, r, l⟩ := hl i x v hN e hv
  have fin : EP X pins σ Q u s := ⟨v, H, I, r, h⟩
  rcases l with ⟨hk, hm⟩ | ⟨hk, c, hc, hcell⟩
  · exact wpAny_Name (wpAny_loadName_local I.ok.kind hk hn hm fin) hd
  · rcases hk with hk | hk
    · exact wpAny_Name (wpAny_loadName_cell I.ok.kind hk hc hcell fin) hd
    · exact wpAny_Name (wpAny_loadName_free I.ok.kind hk hc hcell fin hcd) hd
theorem pe_int {i j pos} : PE X (.Constant (.int i) j pos) (tC (.int i)) := fun _ _ _ H _ I h => wpAny_Constant_int ⟨.int i, H, I.tok _, ⟨_, rfl⟩, h⟩
theorem pe_bl {b j pos} : PE X (.Constant (.bool b) j pos) (tC (.bl b)) := fun _ _ _ H _ I h => Constant_bool ⟨.bl b, H, I, rfl, h⟩
theorem pe_str {x j pos} : PE X (.Constant (.str x) j pos) (tC (.str x)) := fun _ _ _ H _ I h => Calls.Constant_str ⟨.str x, H, I.tok _, ⟨_, rfl⟩, h⟩

/-- a global name of the def -/
def Gl (X : Cx) (x : Str) : Prop := X.env.kindOf x = some .globalImplicit
theorem ld_glob {E : Value → Shared → Prop} {pins : List (Addr × Obj)} {s : Shared} {σ : St} {H : Hp} {x : Str} {u : Value} {pos : Pos} {Q : Value → Shared → Prop} (I : Inv X pins σ H s) (hg : Gl X x) (hm : X.mg x = some u) (h : Q u s)
    (hd : (x == ("__debug__" : Str)) = false := by decide) : wpAny (model X.prog X.w) X.A (eval (.Name x pos) X.env) Q E s :=
  Calls.Name_function_global I.ok.kind hg (Calls.loadGlobal_global (by rw [I.ok.glob]; exact I.mod.glob.keeps I.bk) hm h) hd
theorem ld_blt {E : Value → Shared → Prop} {pins : List (Addr × Obj)} {s : Shared} {σ : St} {H : Hp} {x : Str} {u : Value} {pos : Pos} {Q : Value → Shared → Prop} (I : Inv X pins σ H s) (hg : Gl X x) (hm : X.mg x = none) (hv : bootBuiltins x = some u) (h : Q u s)
    (hn : x ≠ "__name__" := by decide) (hd : (x == ("__debug__" : Str)) = false := by decide) : wpAny (model X.prog X.w) X.A (eval (.Name x pos) X.env) Q E s := by
  obtain ⟨mb, h1, h2⟩ := I.mod.blt
  exact Calls.Name_function_global I.ok.kind hg (Calls.loadGlobal_builtin (by rw [I.ok.glob]; exact I.mod.glob.keeps I.bk) hm (by rw [I.ok.blt]; exact h1.keeps I.bk) ((h2 x hn).trans hv) h) hd
theorem pe_bltn {x : Str} {v : V} {u : Value} {pos : Pos} (hg : Gl X x) (hm : X.mg x = none) (hv : bootBuiltins x = some u) (r : RelV v u) (hn : x ≠ "__name__" := by decide) (hd : (x == ("__debug__" : Str)) = false := by decide) : PE X (.Name x pos) (tC v) :=
  fun _ _ _ H _ I h => ld_blt I hg hm hv ⟨v, H, I, r, h⟩ hn hd

/-! ### arithmetic -/
variable {a b : Expr} {ta tb : TE} {pos : Pos}
/-! ### comparisons -/
/-- a comparison as a value, as a test -/
def tB (t : TE) : TT := fun σ H Q => t σ H fun x H1 => ∃ c, x = .bl c ∧ Q c H1
/-- an expression whose value is a bool, as a test -/
theorem pt_val {e : Expr} {t : TE} (h : PE X e t) (he : ∀ whole, isTrue e X.env whole = (do let v ← whole; standAt e.pos; holding [v] (truthy v)) := by intro _; rfl) : PT X e (tB t) := by
  intro pins s σ H Q I hw
  refine isTrue_plain (thn (h pins s σ H _ I hw) fun v s1 ⟨x, H1, I1, r1, q1⟩ => ?_) (he _)
  obtain ⟨d, rfl, q⟩ := q1
  cases r1
  exact wpAny_truthy_bool ⟨H1, I1, q⟩

/-! ### and, or, not -/
variable {tA tB' : TT} {rest : List Expr}
def tAnd (t u : TT) : TT := fun σ H Q => t σ H fun c H1 => if c = true then u σ H1 Q else Q false H1
def tOr (t u : TT) : TT := fun σ H Q => t σ H fun c H1 => if c = true then Q true H1 else u σ H1 Q
def tNot (t : TT) : TT := fun σ H Q => t σ H fun c H1 => Q (!c) H1
theorem pw_and1 (ha : PT X a tA) : PW X (.BoolOp .And [a] pos) tA := by
  intro wh pins s σ H Q I h
  refine isTrue_and (thn (ha pins s σ H Q I h) fun c s1 e => ?_)
  cases c with
  | true => exact isTrue_and_nil e
  | false => exact e
theorem pw_or1 (ha : PT X a tA) : PW X (.BoolOp .Or [a] pos) tA := by
  intro wh pins s σ H Q I h
  refine isTrue_or (thn (ha pins s σ H Q I h) fun c s1 e => ?_)
  cases c with
  | false => exact isTrue_or_nil e
  | true => exact e
theorem pw_and (ha : PT X a tA) (hb : PW X (.BoolOp .And (b :: rest) pos) tB') : PW X (.BoolOp .And (a :: b :: rest) pos) (tAnd tA tB') := by
  intro wh pins s σ H Q I h
  refine isTrue_and (thn (ha pins s σ H _ I h) fun c s1 ⟨H1, I1, q1⟩ => ?_)
  cases c with
  | true => exact hb wh pins s1 σ H1 Q I1 q1
  | false => exact ⟨H1, I1, q1⟩
theorem pw_or (ha : PT X a tA) (hb : PW X (.BoolOp .Or (b :: rest) pos) tB') : PW X (.BoolOp .Or (a :: b :: rest) pos) (tOr tA tB') := by
  intro wh pins s σ H Q I h
  refine isTrue_or (thn (ha pins s σ H _ I h) fun c s1 ⟨H1, I1, q1⟩ => ?_)
  cases c with
  | true => exact ⟨H1, I1, q1⟩
  | false => exact hb wh pins s1 σ H1 Q I1 q1
theorem pt_not (ha : PT X a tA) : PT X (.UnaryOp .Not a pos) (tNot tA) := by
  intro pins s σ H Q I h
  exact isTrue_not (ha pins s σ H (fun c H1 => Q (!c) H1) I h)
def tOrV (ta tb : TE) : TE := fun σ H Q => ta σ H fun x H1 => ∃ c, x = .bl c ∧ if c = true then Q (.bl true) H1 else tb σ H1 Q
theorem pe_one {op} {t : TE} (h : PE X a t) : PE X (.BoolOp op [a] pos) t := fun pins s σ H Q I hw => BoolOp_one (h pins s σ H Q I hw)
theorem pe_or (ha : PE X a ta) (hb : PE X (.BoolOp .Or (b :: rest) pos) tb) : PE X (.BoolOp .Or (a :: b :: rest) pos) (tOrV ta tb) := by
  intro pins s σ H Q I h
  refine BoolOp_or (thn (ha pins s σ H _ I h) fun v s1 ⟨x, H1, I1, r1, q1⟩ => ?_)
  obtain ⟨c, rfl, q1⟩ := q1
  cases r1
  refine wpAny_truthy_bool ?_
  cases c with
  | false => exact hb pins s1 σ H1 Q I1 q1
  | true => exact ⟨.bl true, H1, I1, rfl, q1⟩
end
end L2

namespace L2
open PySem PySem.Spec PyProof.Rows

/-! ### a list, a tuple that is read: tracked, frozen, or an object of the module -/
def SqL (K : PySem.W.Frag) (H : Hp) (a : Addr) (xs : List V) : Prop :=
  Rd H a (.lst xs) ∨
    ∃ (o : Obj) (its : Array Value) (n : Nat), K.lookup a = some o ∧ o.cls = .type "list" ∧ o.dict = none ∧ o.data = .seq its n ∧ its.size ≤ sizeLine ∧ Vals xs its.toList
def SqT (K : PySem.W.Frag) (H : Hp) (a : Addr) (xs : List V) : Prop :=
  Rd H a (.tup xs) ∨
    ∃ (o : Obj) (its : Array Value) (n : Nat), K.lookup a = some o ∧ o.cls = .type "tuple" ∧ o.data = .seq its n ∧ its.size ≤ sizeLine ∧ Vals xs its.toList
def absV : Value → Option V
  | .none => some .non
  | .bool b => some (.bl b)
  | .int i _ => some (.int i)
  | .str x _ => some (.str x)
  | .bytes b _ => some (.byt b)
  | .float b _ => some (.flt b)
  | .ref a => some (.ref a)
  | .type n => some (.ty n)
  | _ => none
theorem RelV.abs {x : V} {u : Value} (r : RelV x u) : absV u = some x := by
  cases x with
  | non => cases r; rfl
  | bl _ => cases r; rfl
  | int _ => obtain ⟨t, rfl⟩ := r; rfl
  | str _ => obtain ⟨t, rfl⟩ := r; rfl
  | byt _ => obtain ⟨t, rfl⟩ := r; rfl
  | flt _ => obtain ⟨t, rfl⟩ := r; rfl
  | ref _ => cases r; rfl
  | ty _ => cases r; rfl
theorem RelV.inj {x y : V} {u : Value} (r : RelV x u) (q : RelV y u) : x = y := Option.some.inj (r.abs.symm.trans q.abs)
theorem Vals.inj : ∀ {xs ys : List V} {us : List Value}, Vals xs us → Vals ys us → xs = ys
  | _, _, _, .nil, .nil => rfl
  | _, _, _, .cons r t, .cons r' t' => by rw [r.inj r', Vals.inj t t']
section
variable {X : Cx} {pins : List (Addr × Obj)} {σ : St} {H : Hp} {s : Shared} {a : Addr} {xs ys : List V}
theorem SqL.of {K : PySem.W.Frag} (h : H a = some (.lst xs)) : SqL K H a xs := .inl (.inl h)
theorem SqT.of {K : PySem.W.Frag} (h : H a = some (.tup xs)) : SqT K H a xs := .inl (.inl h)
theorem Inv.list (I : Inv X pins σ H s) (h : SqL X.K H a xs) : ∃ its : List Value, Vals xs its ∧ PlainL s.heap a its.toArray ∧ xs.length ≤ sizeLine := by
  rcases h with h | ⟨o, its, n, hk, hc, hd, hs, hz, r⟩
  · obtain ⟨z, its, n, r, e⟩ := h.ok I.hok
    exact ⟨its, r, ⟨_, n, e, rfl, rfl, rfl⟩, z⟩
  · refine ⟨its.toList, r, ⟨o, n, I.kIn a o hk, hc, hd, by simpa using hs⟩, ?_⟩
    have e := r.length
    simp only [Array.length_toList] at e
    omega
theorem Inv.tuple (I : Inv X pins σ H s) (h : SqT X.K H a xs) : ∃ its : List Value, Vals xs its ∧ IsTup s.heap a its.toArray ∧ xs.length ≤ sizeLine := by
  rcases h with h | ⟨o, its, n, hk, hc, hs, hz, r⟩
  · obtain ⟨z, its, r, p⟩ := h.ok I.hok
    exact ⟨its, r, p, z⟩
  · refine ⟨its.toList, r, ⟨o, I.kIn a o hk, hc, n, by simpa using hs⟩, ?_⟩
    have e := r.length
    simp only [Array.length_toList] at e
    omega
theorem Inv.list_inj (I : Inv X pins σ H s) (h : SqL X.K H a xs) (h' : SqL X.K H a ys) : xs = ys := by
  obtain ⟨its, r, ⟨o, n, e, _, _, d⟩, _⟩ := I.list h
  obtain ⟨its', r', ⟨o', n', e', _, _, d'⟩, _⟩ := I.list h'
  rw [e] at e'; cases e'
  rw [d] at d'
  injection d' with d1 _
  have : its = its' := by simpa using congrArg Array.toList d1
  subst this
  exact r.inj r'
end

/-! ### another wish about exceptions -/
abbrev Cx.wish (X : Cx) (E : Value → Shared → Prop) : Cx := { X with xe := E }
/-- no exception leaves -/
abbrev Cx.nox (X : Cx) : Cx := X.wish fun _ _ => False
theorem Cx.Ok.wish {X : Cx} (ok : X.Ok) (E : Value → Shared → Prop) : (X.wish E).Ok :=
  ⟨ok.mod, ok.kind, ok.glob, ok.blt, ok.above, ok.inj, ok.has, ok.cab, ok.hd, ok.frames, ok.stk, ok.exf, ok.bs, ok.bsz, ok.noex, ok.exfs, ok.funs, ok.frf⟩
theorem Cx.Ok.unwish {X : Cx} {E : Value → Shared → Prop} (ok : (X.wish E).Ok) : X.Ok :=
  ⟨ok.mod, ok.kind, ok.glob, ok.blt, ok.above, ok.inj, ok.has, ok.cab, ok.hd, ok.frames, ok.stk, ok.exf, ok.bs, ok.bsz, ok.noex, ok.exfs, ok.funs, ok.frf⟩
section
variable {X : Cx} {pins : List (Addr × Obj)} {σ : St} {H : Hp} {s : Shared} {E : Value → Shared → Prop}
theorem Inv.wish (I : Inv X pins σ H s) (E : Value → Shared → Prop) : Inv (X.wish E) pins σ H s := ⟨I.ok.wish E, I.os, I.bare, I.base, I.loc, I.cell, I.free, I.freeC, I.pin, I.hok, I.len⟩
theorem Inv.unwish (I : Inv (X.wish E) pins σ H s) : Inv X pins σ H s := ⟨I.ok.unwish, I.os, I.bare, I.base, I.loc, I.cell, I.free, I.freeC, I.pin, I.hok, I.len⟩
theorem SP.unwish {D : Ends} {f : Flow} {s' : Shared} (h : SP (X.wish E) pins D f s') : SP X pins D f s' := by
  cases f with
  | next => obtain ⟨σ', H', I, q⟩ := h; exact ⟨σ', H', I.unwish, q⟩
  | brk => obtain ⟨σ', H', I, q⟩ := h; exact ⟨σ', H', I.unwish, q⟩
  | cont => obtain ⟨σ', H', I, q⟩ := h; exact ⟨σ', H', I.unwish, q⟩
  | ret u => obtain ⟨v, σ', H', I, r, q⟩ := h; exact ⟨v, σ', H', I.unwish, r, q⟩
theorem PE.nox {e : Expr} {t : TE} (h : PE X.nox e t) : PE X e t := fun pins s σ H Q I hw =>
  wpAny_mono (h pins s σ H Q (I.wish _) hw) (fun _ _ ⟨v, H', I', r, q⟩ => ⟨v, H', I'.unwish, r, q⟩) fun _ _ z => False.elim z
theorem PT.nox {e : Expr} {t : TT} (h : PT X.nox e t) : PT X e t := fun pins s σ H Q I hw =>
  wpAny_mono (h pins s σ H Q (I.wish _) hw) (fun _ _ ⟨H', I', q⟩ => ⟨H', I'.unwish, q⟩) fun _ _ z => False.elim z
theorem PSs.nox {st : List Stmt} {t : TS} (h : PSs X.nox st t) : PSs X st t := fun pins s σ H D I hw =>
  wpAny_mono (h pins s σ H D (I.wish _) hw) (fun _ _ q => q.unwish) fun _ _ z => False.elim z
end

/-! ### blocks and small statements -/
section
variable {X : Cx} {st : Stmt} {rest : List Stmt} {t u : TS} {e : Expr} {te : TE} {pos : Pos}
def tNext : TS := fun D σ H => D.nx σ H
def tSeq (t u : TS) : TS := fun D σ H => t { D with nx := u D } σ H
theorem pss_nil : PSs X [] tNext := fun _ _ σ H _ I h => wpAny_execs_nil ⟨σ, H, I, h⟩
theorem pss_cons (h1 : PS X st t) (h2 : PSs X rest u) : PSs X (st :: rest) (tSeq t u) := by
  intro pins s σ H D I h
  refine wpAny_execs_cons (thn (h1 pins s σ H { D with nx := u D } I h) fun f s1 q => ?_)
  cases f with
  | next =>
    obtain ⟨σ', H', I', q⟩ := q
    exact h2 pins s1 σ' H' D I' q
  | ret v => exact q
  | brk => exact q
  | cont => exact q
theorem pss_one (h1 : PS X st t) : PSs X [st] t := by
  intro pins s σ H D I h
  refine wpAny_execs_cons (thn (h1 pins s σ H D I h) fun f s1 q => ?_)
  cases f with
  | next => exact wpAny_execs_nil q
  | ret v => exact q
  | brk => exact q
  | cont => exact q
/-- in a def's body nothing is shown -/
theorem Inv.quiet {pins : List (Addr × Obj)} {σ : St} {H : Hp} {s : Shared} (I : Inv X pins σ H s) : interactive X.env = false := by simp [interactive, I.ok.kind]
/-- an expression whose value is dropped -/
def tDrop (te : TE) : TS := fun D σ H => te σ H fun _ H1 => D.nx σ H1
theorem ps_expr (he : PE X e te) (hs : swapsWith e none pos.line X.env = pure false := by rfl) : PS X (.Expr e pos) (tDrop te) := by
  intro pins s σ H D I h
  exact wpAny_Expr_any (thn (he pins s σ H _ I h) fun v s1 ⟨x, H1, I1, r1, q1⟩ => ⟨σ, H1, I1, q1⟩) I.quiet hs
def tRet (te : TE) : TS := fun D σ H => te σ H D.rt
theorem ps_ret (he : PE X e te) : PS X (.Return (some e) pos) (tRet te) := by
  intro pins s σ H D I h
  exact wpAny_Return_some (thn (he pins s σ H _ I h) fun v s1 ⟨x, H1, I1, r1, q1⟩ => ⟨x, σ, H1, I1, r1, q1⟩)
def tIfS (c : TT) (t u : TS) : TS := fun D σ H => c σ H fun b H1 => if b = true then t D σ H1 else u D σ H1
theorem ps_if {c : Expr} {a b : List Stmt} {tc : TT} (hc : PT X c tc) (ha : PSs X a t) (hb : PSs X b u) : PS X (.If c a b pos) (tIfS tc t u) := by
  intro pins s σ H D I h
  refine wpAny_If (thn (hc pins s σ H _ I h) fun d s1 ⟨H1, I1, q1⟩ => ?_)
  cases d with
  | true => exact ha pins s1 σ H1 D I1 q1
  | false => exact hb pins s1 σ H1 D I1 q1
end

/-! ### targets -/
abbrev TG := V → St → Hp → (St → Hp → Prop) → Prop
def PG (X : Cx) (target : Expr) (t : TG) : Prop :=
  ∀ (pins : List (Addr × Obj)) (s : Shared) (σ : St) (H : Hp) (v : V) (u : Value) (Q : St → Hp → Prop), Inv X pins σ H s → RelV v u → t v σ H Q →
    wpAny (model X.prog X.w) X.A (assign target X.env u) (fun _ s' => ∃ σ' H', Inv X pins σ' H' s' ∧ Q σ' H') X.xe s
section
variable {X : Cx} {pos : Pos}
def gName (i : Nat) : TG := fun v σ H Q => Q (σ.set i (some v)) H
theorem pg_name {i : Nat} {x : Str} (hN : X.N.Nodup) (hi : X.N[i]? = some x) (hx : Loc X.env.scope x) (hf : X.fn x = true ∨ X.env.scope.names.lookup x = some .local := by first | exact .inl rfl | exact .inr rfl | assumption) : PG X (.Name x pos) (gName i) := by
  intro pins s σ H v u Q I r h
  exact wpAny_assign_Name (store_ok I hN hi hx r (fun s' I' => ⟨_, H, I', h⟩) hf)
/-- target = value -/
def tAsg (te : TE) (g : TG) : TS := fun D σ H => te σ H fun x H1 => g x σ H1 D.nx
/-- name = value -/
theorem ps_set {i : Nat} {x : Str} {e : Expr} {te : TE} {pos' : Pos} (hN : X.N.Nodup) (hi : X.N[i]? = some x) (hx : Loc X.env.scope x) (he : PE X e te) (hs : swapsWith e (some (.Name x pos')) pos.line X.env = pure false := by rfl) (hf : X.fn x = true ∨ X.env.scope.names.lookup x = some .local := by first | exact .inl rfl | exact .inr rfl | assumption) :
    PS X (.Assign [.Name x pos'] e pos) (tAsg te (gName i)) := by
  intro pins s σ H D I h
  refine wpAny_Assign_Name (thn (he pins s σ H _ I h) fun v s1 ⟨y, H1, I1, r1, q1⟩ => ?_) hs
  exact store_ok I1 hN hi hx r1 (fun s2 I2 => ⟨_, H1, I2, q1⟩) hf
end

/-! ### while -/
section
variable {X : Cx} {pos : Pos}
/-- the invariant W with its measure -/
def tWhile (c : TT) (tb : TS) : TS := fun D σ H => ∃ W : Nat → St → Hp → Prop, (∃ m, W m σ H) ∧ ∀ m σ H, W m σ H →
  c σ H fun b H1 => if b = true then ∃ N : St → Hp → Prop, (∀ σ' H', N σ' H' → ∃ m', m' < m ∧ W m' σ' H') ∧ tb { D with nx := N, ct := N, bk := D.nx } σ H1 else D.nx σ H1
theorem ps_while {c : Expr} {body : List Stmt} {tc : TT} {tb : TS} (hp : PassesOwn (model X.prog X.w) X.A X.env X.xe) (hc : PT X c tc) (hb : PSs X body tb) : PS X (.While c body [] pos) (tWhile tc tb) := by
  intro pins s σ H D I h
  obtain ⟨W, ⟨m0, w0⟩, turn⟩ := h
  refine wpAny_While (codeAny_whileLoop (fun n s' => ∃ σ' H', Inv X pins σ' H' s' ∧ W n σ' H') ?_ m0 ⟨σ, H, I, w0⟩)
  rintro n s1 ⟨σ1, H1, I1, w1⟩
  refine wpAny_passesOwn hp (thn (hc pins s1 σ1 H1 _ I1 (turn n σ1 H1 w1)) fun b s2 ⟨H2, I2, q2⟩ => ?_)
  cases b with
  | true =>
    obtain ⟨N, hN, q2⟩ := q2
    rw [if_pos rfl]
    refine wpAny_passesOwn hp (thn (hb pins s2 σ1 H2 _ I2 q2) fun f s3 q3 => ?_)
    cases f with
    | next =>
      obtain ⟨σ3, H3, I3, n3⟩ := q3
      obtain ⟨m', hm, w3⟩ := hN σ3 H3 n3
      exact ⟨m', hm, σ3, H3, I3, w3⟩
    | cont =>
      obtain ⟨σ3, H3, I3, n3⟩ := q3
      obtain ⟨m', hm, w3⟩ := hN σ3 H3 n3
      exact ⟨m', hm, σ3, H3, I3, w3⟩
    | brk => exact q3
    | ret v => exact q3
  | false =>
    rw [if_neg Bool.false_ne_true]
    exact wpAny_execs_nil ⟨σ1, H2, I2, q2⟩
end

/-! ### what a loop or a comprehension walks -/
/-- at turn i: it yields x (the heap may grow), or it stops -/
structure It where
  go : Nat → Hp → Prop
  yld : Nat → Hp → V → Hp → Prop
  stop : Nat → Hp → Prop
/-- the iterator's own objects may turn: they are not the frame's, not pinned, younger than the entry (or a comprehension's own) -/
def FpOk (X : Cx) (pins : List (Addr × Obj)) (H : Hp) (b : Addr) : Prop :=
  H b = none ∧ b ≠ X.env.locals ∧ b ∉ X.fs ∧ (b ∈ X.ex ∨ X.s₀.heap.objs.size ≤ b) ∧ (∀ x c, X.env.cells.lookup x = some c → c ≠ b) ∧ ∀ p ∈ X.pn ++ pins, p.1 ≠ b
theorem Inv.fpOk {X : Cx} {pins : List (Addr × Obj)} {σ : St} {H H' : Hp} {s : Shared} {b : Addr} (I : Inv X pins σ H s) (hb : s.heap.objs.size ≤ b) (hn : H' b = none) : FpOk X pins H' b := by
  refine ⟨hn, Nat.ne_of_gt (Nat.lt_of_lt_of_le I.lt hb), I.nofs hb, .inr (Nat.le_trans I.sz hb), fun x c e z => ?_, fun p hp z => ?_⟩
  · obtain ⟨v, q⟩ := I.cell x c e
    exact absurd (Nat.lt_of_lt_of_le q.lt (by rw [z]; exact hb)) (Nat.lt_irrefl _)
  · exact absurd (Nat.lt_of_lt_of_le (Heap.lt_size (I.pin p hp).1) (by rw [z]; exact hb)) (Nat.lt_irrefl _)
structure Turn (P : Program) (w : World) (K : PySem.W.Frag) (tg : Expr) (J : It) (fp : List Addr) (it : Addr) (tn : Nat → Heap → Prop) : Prop where
  mem : it ∈ fp
  obj : ∀ i h, tn i h → ∀ b ∈ fp, ∃ o, h.get? b = some o ∧ ∀ v, o.data ≠ .cell v
  keep : ∀ i h h', tn i h → (∀ b ∈ fp, ∀ o, h.get? b = some o → h'.get? b = some o) → tn i h'
  item : ∀ (X : Cx), X.prog = P → X.w = w → X.K = K → X.calm = true → ∀ (i : Nat) (pins : List (Addr × Obj)) (s : Shared) (σ : St) (H : Hp) (E : Value → Shared → Prop), Inv X pins σ H s → (∀ b ∈ fp, FpOk X pins H b) → tn i s.heap → J.go i H →
    wpAny (model P w) X.A (pyNext (.ref it)) (fun r s1 => ∃ u, r = some u ∧
      wpAny (model P w) X.A (letOwnedTupleGo tg (.ref it) u) (fun _ s2 => ∃ x H', Inv X pins σ H' s2 ∧ RelV x u ∧ J.yld i H x H' ∧ tn (i + 1) s2.heap ∧ ∀ b ∈ fp, H' b = none) E s1) E s
  done : ∀ (X : Cx), X.prog = P → X.w = w → X.K = K → X.calm = true → ∀ (i : Nat) (pins : List (Addr × Obj)) (s : Shared) (σ : St) (H : Hp) (E : Value → Shared → Prop), Inv X pins σ H s → (∀ b ∈ fp, FpOk X pins H b) → tn i s.heap → J.stop i H →
    wpAny (model P w) X.A (pyNext (.ref it)) (fun r s1 => r = none ∧ Inv X pins σ H s1) E s
  self : ∀ (A : Around) (i : Nat) (s : Shared) (Q : Value → Shared → Prop) (E : Value → Shared → Prop), tn i s.heap → Q (.ref it) s → wpAny (model P w) A (pyIter (.ref it)) Q E s
abbrev TI := St → Hp → (It → Hp → Prop) → Prop
/-- an iterator has come -/
def PIE (X : Cx) (pins : List (Addr × Obj)) (σ : St) (tg : Expr) (R : It → Hp → Prop) (itv : Value) (s2 : Shared) : Prop :=
  ∃ (it : Addr) (fp : List Addr) (tn : Nat → Heap → Prop) (J : It) (H' : Hp), itv = .ref it ∧ Inv X pins σ H' s2 ∧ Turn X.prog X.w X.K tg J fp it tn ∧ tn 0 s2.heap ∧ (∀ b ∈ fp, FpOk X pins H' b) ∧ R J H'
def PI (X : Cx) (tg iter : Expr) (wi : TI) : Prop :=
  ∀ (pins : List (Addr × Obj)) (s : Shared) (σ : St) (H : Hp) (R : It → Hp → Prop), Inv X pins σ H s → wi σ H R →
    wpAny (model X.prog X.w) X.A (eval iter X.env) (fun v s1 => wpAny (model X.prog X.w) X.A (pyIter v) (PIE X pins σ tg R) X.xe s1) X.xe s

/-- the step ahead of the store is nothing for an iterator that keeps no tuple -/
theorem go_of {M : Model} {A : Around} {E : Value → Shared → Prop} {s : Shared} {tg : Expr} {it : Addr} {u : Value} {o : Obj} {n : String} {vs : Array Value} {Q : Unit → Shared → Prop} (ho : s.heap.get? it = some o) (hc : o.cls = .type n) (hd : o.data = .fields vs)
    (hn : ["enumerate", "zip", "dict_itemiterator", "dict_reverseitemiterator", "odict_iterator", "itertools.zip_longest", "itertools.pairwise"].contains n = false) (hQ : Q () s) : wpAny M A (letOwnedTupleGo tg (.ref it) u) Q E s := by
  unfold letOwnedTupleGo
  cases tg <;> first
    | exact wpAny_pure hQ
    | (cases u <;> first
        | exact wpAny_pure hQ
        | (refine wpAny_bind (wpAny_load ho ?_)
           rw [hc, hd]
           show wpAny M A (if (["enumerate", "zip", "dict_itemiterator", "dict_reverseitemiterator", "odict_iterator", "itertools.zip_longest", "itertools.pairwise"].contains n && vs[0]? == some (rawInt _)) = true then _ else _) Q E s
           rw [if_neg (by intro h; rw [hn, Bool.false_and] at h; cases h)]
           exact wpAny_pure hQ))

/-- the list at a, as it stands at each turn (a loop may append to it) -/
def Itl (K : PySem.W.Frag) (a : Addr) : It :=
  ⟨fun i H => ∃ xs x, SqL K H a xs ∧ xs[i]? = some x, fun i H x H' => H' = H ∧ ∀ xs, SqL K H a xs → xs[i]? = some x, fun i H => ∃ xs, SqL K H a xs ∧ xs.length ≤ i⟩
/-- lo, lo + 1, .. (n of them) -/
def Itr (lo : Int) (n : Nat) : It := ⟨fun i _ => i < n, fun i H x H' => H' = H ∧ x = .int (lo + i), fun i _ => n ≤ i⟩
theorem turn_list {P : Program} {w : World} {K : PySem.W.Frag} {tg : Expr} (a it : Addr) : Turn P w K tg (Itl K a) [it] it (fun i h => h.IsListIter it a i) where
  mem := by simp
  obj := fun i h st b hb => by
    have e : b = it := by simpa using hb
    subst e
    obtain ⟨o, e, c, d⟩ := st
    exact ⟨o, e, fun v z => by rw [d] at z; cases z⟩
  keep := fun i h h' st k => st.at fun o e => k it (by simp) o e
  item := by
    intro X hP hw hK hc i pins s σ H E I hf st hg
    subst hP hw hK
    obtain ⟨xs, x, hq, hx⟩ := hg
    obtain ⟨its, rv, p, hz⟩ := I.list hq
    obtain ⟨u, hu, ru⟩ := rv.get hx
    obtain ⟨f0, f1, f2, f3, f4, f5⟩ := hf it (by simp)
    refine wpAny_pyNext_list_item st p.isList (x := u) (by simpa using hu) fun h' st' sb => ?_
    have I1 : Inv X pins σ H { s with heap := h' } := I.turned (t' := s.toks) (fun b o hb e => (sb.2 b hb).trans e) f0 f1 f3 f4 f5
    obtain ⟨o, e, c, d⟩ := id st'
    exact ⟨u, rfl, go_of (s := { s with heap := h' }) e c d (by decide) ⟨x, H, I1, ru, ⟨rfl, fun ys hy => by rw [I.list_inj hy hq]; exact hx⟩, st', fun b hb => (hf b hb).1⟩⟩
  done := by
    intro X hP hw hK hc i pins s σ H E I hf st hg
    subst hP hw hK
    obtain ⟨xs, hq, hx⟩ := hg
    obtain ⟨its, rv, p, hz⟩ := I.list hq
    obtain ⟨f0, f1, f2, f3, f4, f5⟩ := hf it (by simp)
    have hl := rv.length
    exact wpAny_pyNext_list_end (I.ok.hd hc) st p.isList (by simp; omega) fun h' eb => ⟨rfl, I.turned (t' := s.toks) (fun b o hb e => eb b o hb e) f0 f1 f3 f4 f5⟩
  self := fun _ _ _ _ _ st h => wpAny_pyIter_listiter st h
theorem turn_range {P : Program} {w : World} {K : PySem.W.Frag} {tg : Expr} (it : Addr) (lo : Int) (n : Nat) : Turn P w K tg (Itr lo n) [it] it (fun i h => IsRangeIter h it (lo + (i : Nat) * 1) ((n : Int) - (i : Nat)) 1) where
  mem := by simp
  obj := fun i h st b hb => by
    have e : b = it := by simpa using hb
    subst e
    exact ⟨_, st, fun v z => by
      have z' : Data.fields _ = Data.cell v := z
      cases z'⟩
  keep := fun i h h' st k => k it (by simp) _ st
  item := by
    intro X hP hw hK hc i pins s σ H E I hf st hg
    subst hP hw hK
    obtain ⟨f0, f1, f2, f3, f4, f5⟩ := hf it (by simp)
    have W := Walks.range (prog := X.prog) (w := X.w) (I.ok.hd hc) it lo 1 n
    refine W.item i s _ _ hg st fun v h' tk hv st' kk => ?_
    obtain ⟨t, rfl⟩ := hv
    have I1 : Inv X pins σ H { s with heap := h', toks := tk } := I.turned (fun b o hb e => kk b o (by simpa using hb) e) f0 f1 f3 f4 f5
    refine ⟨_, rfl, go_of (s := { s with heap := h', toks := tk }) (n := "range_iterator") st' rfl rfl (by decide) ⟨.int (lo + i), H, I1, ⟨t, ?_⟩, ⟨rfl, rfl⟩, st', fun b hb => (hf b hb).1⟩⟩
    rw [Int.mul_one]
  done := by
    intro X hP hw hK hc i pins s σ H E I hf st hg
    subst hP hw hK
    obtain ⟨f0, f1, f2, f3, f4, f5⟩ := hf it (by simp)
    exact wpAny_pyNext_range_end (I.ok.hd hc) st (by have : n ≤ i := hg; omega) fun h' eb => ⟨rfl, I.turned (t' := s.toks) (fun b o hb e => eb b o hb e) f0 f1 f3 f4 f5⟩
  self := fun _ _ _ _ _ st h => wpAny_pyIter_rangeiter st h
end L2

namespace L2
open PySem PySem.Spec PyProof.Rows
section
variable {X : Cx} {tg : Expr}
def iList (K : PySem.W.Frag) (tl : TE) : TI := fun σ H R => tl σ H fun x H1 => ∃ a, x = .ref a ∧ (∃ xs, SqL K H1 a xs) ∧ R (Itl K a) H1
theorem pi_list {l : Expr} {tl : TE} (hl : PE X l tl) : PI X tg l (iList X.K tl) := by
  intro pins s σ H R I h
  refine thn (hl pins s σ H _ I h) fun v s1 ⟨x, H1, I1, r1, q1⟩ => ?_
  obtain ⟨a, e, ⟨xs, hq⟩, q⟩ := q1
  subst e
  cases r1
  obtain ⟨its, rv, p, hz⟩ := I1.list hq
  refine wpAny_pyIter_list p.isList ?_
  refine ⟨s1.heap.objs.size, [s1.heap.objs.size], _, _, H1, rfl, I1.kept (t' := s1.toks) fun b o e => Heap.get?_push_of_some _ e, turn_list a _, ⟨_, Heap.get?_push_size _ rfl, rfl, rfl⟩, fun b hb => ?_, q⟩
  have e : b = s1.heap.objs.size := by simpa using hb
  subst e
  exact I1.fpOk (Nat.le_refl _) (I1.hok.fresh (Nat.le_refl _))
/-- a range object just made, walked -/
theorem range_it {pins : List (Addr × Obj)} {σ : St} {H : Hp} {s : Shared} {R : It → Hp → Prop} {E : Value → Shared → Prop} {lo hi : Int} {t u v : Tok} {tk : Nat} (I : Inv X pins σ H s) (h1 : -(2 ^ 62) ≤ lo) (h2 : lo < 2 ^ 62) (h3 : -(2 ^ 62) ≤ hi) (h4 : hi < 2 ^ 62)
    (q : R (Itr lo (hi - lo).toNat) H) : wpAny (model X.prog X.w) X.A (pyIter (.ref s.heap.objs.size)) (PIE X pins σ tg R) E { s with heap := s.heap.push { cls := .type "range", data := .fields #[.int lo t, .int hi u, .int 1 v] }, toks := tk } := by
  refine wpAny_pyIter_range (IsRange.new ..) (small_one h1 h2 h3 h4) ?_
  have I1 : Inv X pins σ H { s with heap := s.heap.push { cls := .type "range", data := .fields #[.int lo t, .int hi u, .int 1 v] }, toks := tk } := I.kept fun b o e => Heap.get?_push_of_some _ e
  refine ⟨(s.heap.push { cls := .type "range", data := .fields #[.int lo t, .int hi u, .int 1 v] }).objs.size, [(s.heap.push { cls := .type "range", data := .fields #[.int lo t, .int hi u, .int 1 v] }).objs.size], _, _, H, rfl,
    I1.kept (t' := tk) fun b o e => Heap.get?_push_of_some _ e, turn_range _ lo (hi - lo).toNat, ?_, fun b hb => ?_, q⟩
  · have e1 : lo + ((0 : Nat) : Int) * 1 = lo := by simp
    have e2 : (((hi - lo).toNat : Nat) : Int) - ((0 : Nat) : Int) = Builtin.Range.rangeSize lo hi 1 := by rw [rangeSize_one]; split <;> omega
    show IsRangeIter _ _ (lo + ((0 : Nat) : Int) * 1) ((((hi - lo).toNat : Nat) : Int) - ((0 : Nat) : Int)) 1
    rw [e1, e2]
    exact Heap.get?_push_size _ rfl
  · have e : b = (s.heap.push { cls := .type "range", data := .fields #[.int lo t, .int hi u, .int 1 v] }).objs.size := by simpa using hb
    subst e
    exact I1.fpOk (Nat.le_refl _) (I1.hok.fresh (Nat.le_refl _))
def iRng1 (ta : TA) : TI := fun σ H R => ta σ H fun vs H1 => ∃ j : Int, vs = [.int j] ∧ -(2 ^ 62) ≤ j ∧ j < 2 ^ 62 ∧ R (Itr 0 j.toNat) H1
theorem pi_range1 {a : Expr} {ta : TA} {p pos : Pos} (hg : Gl X "range") (hm : X.mg "range" = none) (ha : PA X [a] ta) (hs : starEach [a] X.env = [(false, eval a X.env)] := by rfl) : PI X tg (.Call (.Name "range" p) [a] [] pos) (iRng1 ta) := by
  intro pins s σ H R I h
  refine Call_ (ld_blt I hg hm boot_range (PyProof.Rows.callWith_type1 (thn (ha pos pins s σ H _ I h) fun us s1 ⟨vs, H1, I1, r1, q1⟩ => ?_) hs rfl))
  obtain ⟨j, e, q1, q2, q⟩ := q1
  subst e
  cases r1 with
  | cons r rr =>
    cases rr
    obtain ⟨t, rfl⟩ := r
    exact call_range_1 (range_it I1 (by omega) (by omega) q1 q2 (by simpa using q))
/-! ### for -/
/-- W: the invariant by the turn and a measure; N: what the body is to reach -/
def tFor (wi : TI) (g : TG) (tb : TS) : TS := fun D σ H => wi σ H fun J H1 => ∃ W : Nat → Nat → St → Hp → Prop, (∃ m, W 0 m σ H1) ∧ ∀ i m σ H, W i m σ H →
  (J.stop i H ∧ D.nx σ H) ∨ (J.go i H ∧ ∃ N : St → Hp → Prop, (∀ σ' H', N σ' H' → ∃ m', m' < m ∧ W (i + 1) m' σ' H') ∧ ∀ x H', J.yld i H x H' → g x σ H' fun σ2 H2 => tb { D with nx := N, ct := N, bk := D.nx } σ2 H2)
/-- the records at fp as they stand -/
def pinsAt (fp : List Addr) (h : Heap) : List (Addr × Obj) := fp.filterMap fun b => (h.get? b).map fun o => (b, o)
theorem mem_pinsAt {fp : List Addr} {h : Heap} {b : Addr} {o : Obj} (hb : b ∈ fp) (e : h.get? b = some o) : (b, o) ∈ pinsAt fp h := List.mem_filterMap.mpr ⟨b, hb, by rw [e]; rfl⟩
theorem of_pinsAt {fp : List Addr} {h : Heap} {p : Addr × Obj} (hp : p ∈ pinsAt fp h) : p.1 ∈ fp ∧ h.get? p.1 = some p.2 := by
  obtain ⟨b, hb, e⟩ := List.mem_filterMap.mp hp
  cases q : h.get? b with
  | none => rw [q] at e; cases e
  | some o =>
    rw [q] at e
    have e' : (b, o) = p := Option.some.inj e
    subst e'
    exact ⟨hb, q⟩
theorem Inv.pinned {pins : List (Addr × Obj)} {σ : St} {H : Hp} {s : Shared} {fp : List Addr} (I : Inv X pins σ H s) (hf : ∀ b ∈ fp, FpOk X pins H b) (ho : ∀ b ∈ fp, ∃ o, s.heap.get? b = some o ∧ ∀ v, o.data ≠ .cell v) : Inv X (pins ++ pinsAt fp s.heap) σ H s :=
  I.pins_of fun p hp => (List.mem_append.mp hp).elim (fun z => I.pin p (List.mem_append_right _ z)) fun z => by
    obtain ⟨hb, e⟩ := of_pinsAt z
    obtain ⟨f0, f1, f2, _⟩ := hf p.1 hb
    obtain ⟨o, e', d⟩ := ho p.1 hb
    rw [e] at e'; cases e'
    exact ⟨e, f0, f1, f2, d⟩
theorem Inv.unpinned {pins pl : List (Addr × Obj)} {σ : St} {H : Hp} {s : Shared} (I : Inv X (pins ++ pl) σ H s) : Inv X pins σ H s := I.pins_of fun p hp => I.pin p (List.mem_append_right _ (List.mem_append_left _ hp))
theorem ps_for {iter : Expr} {body : List Stmt} {wi : TI} {g : TG} {tb : TS} {pos : Pos} (hp : PassesOwn (model X.prog X.w) X.A X.env X.xe) (hc : X.calm = true) (hi : PI X tg iter wi) (hg : PG X tg g) (hb : PSs X body tb)
    (hs : ∀ x, foldedSetIterable iter X.env x = pure x := by intro _; rfl) : PS X (.For tg iter body [] pos) (tFor wi g tb) := by
  intro pins s σ H D I h
  refine wpAny_For (thn (hi pins s σ H _ I h) fun v s1 h1 => thn h1 fun itv s2 h2 => ?_) hs
  obtain ⟨it, fp, tn, J, H2, e, I2, T, st2, f2, W, ⟨m0, w0⟩, turn⟩ := h2
  subst e
  -- what stays true of the iterator's objects through the loop
  have stat : ∀ {H' : Hp}, (∀ b ∈ fp, H' b = none) → ∀ b ∈ fp, FpOk X pins H' b := fun hn b hb => ⟨hn b hb, (f2 b hb).2⟩
  refine codeAny_forLoop_any (fun n s' => ∃ i σ' H', Inv X pins σ' H' s' ∧ tn i s'.heap ∧ (∀ b ∈ fp, H' b = none) ∧ W i n σ' H') ?_ m0 ⟨0, σ, H2, I2, st2, fun b hb => (f2 b hb).1, w0⟩
  rintro n s3 ⟨i, σ3, H3, I3, st3, fr3, w3⟩
  rcases turn i n σ3 H3 w3 with ⟨stop, qn⟩ | ⟨go, N, hN, step⟩
  · refine wpAny_passesOwn hp (thn (T.done X rfl rfl rfl hc i pins s3 σ3 H3 X.xe I3 (stat fr3) st3 stop) fun r s4 ⟨hr, I4⟩ => ?_)
    subst hr
    exact wpAny_execs_nil ⟨σ3, H3, I4, qn⟩
  · refine wpAny_passesOwn hp (thn (T.item X rfl rfl rfl hc i pins s3 σ3 H3 X.xe I3 (stat fr3) st3 go) fun r s4 ⟨u, hr, h4⟩ => ?_)
    subst hr
    refine wpAny_passesOwn hp (thn h4 fun _ s5 ⟨x, H5, I5, r5, y5, st5, fr5⟩ => ?_)
    have I5' := I5.pinned (stat fr5) (T.obj _ _ st5)
    refine wpAny_passesOwn hp (thn (hg _ s5 σ3 H5 x u _ I5' r5 (step x H5 y5)) fun _ s6 ⟨σ6, H6, I6, q6⟩ => ?_)
    refine wpAny_passesOwn hp (thn (hb _ s6 σ6 H6 _ I6 q6) fun f s7 q7 => ?_)
    have again : ∀ {σ7 : St} {H7 : Hp}, Inv X (pins ++ pinsAt fp s5.heap) σ7 H7 s7 → N σ7 H7 → ∃ m, m < n ∧ ∃ i σ' H', Inv X pins σ' H' s7 ∧ tn i s7.heap ∧ (∀ b ∈ fp, H' b = none) ∧ W i m σ' H' := fun {σ7 H7} I7 n7 => by
      obtain ⟨m', hm, w7⟩ := hN σ7 H7 n7
      refine ⟨m', hm, i + 1, σ7, H7, I7.unpinned, T.keep _ _ _ st5 fun b hb o e => (I7.pin (b, o) (List.mem_append_right _ (List.mem_append_right _ (mem_pinsAt hb e)))).1, fun b hb => ?_, w7⟩
      obtain ⟨o, e, d⟩ := T.obj _ _ st5 b hb
      exact (I7.pin (b, o) (List.mem_append_right _ (List.mem_append_right _ (mem_pinsAt hb e)))).2.1
    cases f with
    | next => obtain ⟨σ7, H7, I7, n7⟩ := q7; exact again I7 n7
    | cont => obtain ⟨σ7, H7, I7, n7⟩ := q7; exact again I7 n7
    | brk => obtain ⟨σ7, H7, I7, q7⟩ := q7; exact ⟨σ7, H7, I7.unpinned, q7⟩
    | ret v => obtain ⟨x7, σ7, H7, I7, r7, q7⟩ := q7; exact ⟨x7, σ7, H7, I7.unpinned, r7, q7⟩
end

/-! ### the forms one uses -/
/-- over a list that the body leaves as it is -/
theorem for_list {K : PySem.W.Frag} {a : Addr} {xs : List V} {g : TG} {tb : TS} {D : Ends} {σ : St} {H : Hp} (Pv : Nat → St → Hp → Prop) (h0 : Pv 0 σ H) (hl : ∀ i σ H, i ≤ xs.length → Pv i σ H → SqL K H a xs)
    (hs : ∀ i x σ H, xs[i]? = some x → Pv i σ H → g x σ H fun σ2 H2 => tb { D with nx := Pv (i + 1), ct := Pv (i + 1), bk := D.nx } σ2 H2) (hd : ∀ σ H, Pv xs.length σ H → D.nx σ H) :
    ∃ W : Nat → Nat → St → Hp → Prop, (∃ m, W 0 m σ H) ∧ ∀ i m σ H, W i m σ H →
      ((Itl K a).stop i H ∧ D.nx σ H) ∨ ((Itl K a).go i H ∧ ∃ N : St → Hp → Prop, (∀ σ' H', N σ' H' → ∃ m', m' < m ∧ W (i + 1) m' σ' H') ∧ ∀ x H', (Itl K a).yld i H x H' → g x σ H' fun σ2 H2 => tb { D with nx := N, ct := N, bk := D.nx } σ2 H2) := by
  refine ⟨fun i m σ H => m = xs.length - i ∧ i ≤ xs.length ∧ Pv i σ H, ⟨xs.length, by simp, Nat.zero_le _, h0⟩, ?_⟩
  rintro i m σ H ⟨rfl, hi, p⟩
  have q := hl i σ H hi p
  by_cases hlt : i < xs.length
  · refine .inr ⟨⟨xs, xs[i], q, by simp [hlt]⟩, Pv (i + 1), fun σ' H' p' => ⟨xs.length - (i + 1), by omega, rfl, hlt, p'⟩, fun x H' y => ?_⟩
    obtain ⟨e, y⟩ := y
    subst e
    exact hs i x σ _ (y xs q) p
  · have e : i = xs.length := by omega
    subst e
    exact .inl ⟨⟨xs, q, Nat.le_refl _⟩, hd σ H p⟩
theorem for_range {lo : Int} {n : Nat} {g : TG} {tb : TS} {D : Ends} {σ : St} {H : Hp} (Pv : Nat → St → Hp → Prop) (h0 : Pv 0 σ H)
    (hs : ∀ i σ H, i < n → Pv i σ H → g (.int (lo + i)) σ H fun σ2 H2 => tb { D with nx := Pv (i + 1), ct := Pv (i + 1), bk := D.nx } σ2 H2) (hd : ∀ σ H, Pv n σ H → D.nx σ H) :
    ∃ W : Nat → Nat → St → Hp → Prop, (∃ m, W 0 m σ H) ∧ ∀ i m σ H, W i m σ H →
      ((Itr lo n).stop i H ∧ D.nx σ H) ∨ ((Itr lo n).go i H ∧ ∃ N : St → Hp → Prop, (∀ σ' H', N σ' H' → ∃ m', m' < m ∧ W (i + 1) m' σ' H') ∧ ∀ x H', (Itr lo n).yld i H x H' → g x σ H' fun σ2 H2 => tb { D with nx := N, ct := N, bk := D.nx } σ2 H2) := by
  refine ⟨fun i m σ H => m = n - i ∧ i ≤ n ∧ Pv i σ H, ⟨n, by simp, Nat.zero_le _, h0⟩, ?_⟩
  rintro i m σ H ⟨rfl, hi, p⟩
  by_cases hlt : i < n
  · refine .inr ⟨hlt, Pv (i + 1), fun σ' H' p' => ⟨n - (i + 1), by omega, rfl, hlt, p'⟩, fun x H' y => ?_⟩
    obtain ⟨e, y⟩ := y
    subst e y
    exact hs i σ _ hlt p
  · have e : i = n := by omega
    subst e
    exact .inl ⟨Nat.le_refl _, hd σ H p⟩
end L2

namespace L2
open PySem PySem.Spec PyProof.Rows

abbrev R2 := V → V → Hp → VK → Prop
/-- a two-place operation on values: f is binaryOp op, inplaceOp op or compareOp op -/
def OpR (X : Cx) (f : Value → Value → Sem Value) (r : R2) : Prop :=
  ∀ (pins : List (Addr × Obj)) (s : Shared) (σ : St) (H : Hp) (x y : V) (v u : Value) (Q : VK), Inv X pins σ H s → RelV x v → RelV y u → r x y H Q →
    wpAny (model X.prog X.w) X.A (f v u) (EP X pins σ Q) X.xe s
/-- a one-place operation -/
def UnR (X : Cx) (f : Value → Sem Value) (r : V → Hp → VK → Prop) : Prop :=
  ∀ (pins : List (Addr × Obj)) (s : Shared) (σ : St) (H : Hp) (x : V) (v : Value) (Q : VK), Inv X pins σ H s → RelV x v → r x H Q →
    wpAny (model X.prog X.w) X.A (f v) (EP X pins σ Q) X.xe s
/-- a call of a value that is known (a builtin, a type) with values -/
def CallR (X : Cx) (f : Value) (r : List V → Hp → VK → Prop) : Prop :=
  ∀ (pins : List (Addr × Obj)) (s : Shared) (σ : St) (H : Hp) (xs : List V) (us : List Value) (Q : VK), Inv X pins σ H s → Vals xs us → r xs H Q →
    wpAny (model X.prog X.w) X.A (call f us) (EP X pins σ Q) X.xe s
def tOp (r : R2) (ta tb : TE) : TE := fun σ H Q => ta σ H fun x H1 => tb σ H1 fun y H2 => r x y H2 Q
def tUn (r : V → Hp → VK → Prop) (ta : TE) : TE := fun σ H Q => ta σ H fun x H1 => r x H1 Q
/-- ints in, under C, and a value out -/
def rI (C : Int → Int → Prop) (g : Int → Int → V) : R2 := fun x y H Q => ∃ i j, x = .int i ∧ y = .int j ∧ C i j ∧ Q (g i j) H
def rI0 (g : Int → Int → V) : R2 := fun x y H Q => ∃ i j, x = .int i ∧ y = .int j ∧ Q (g i j) H
def rU (g : Int → V) : V → Hp → VK → Prop := fun x H Q => ∃ i, x = .int i ∧ Q (g i) H

section
variable {X : Cx} {a b c : Expr} {ta tb tc : TE} {pos : Pos}

theorem binT (ha : PE X a ta) (hb : PE X b tb) {pins : List (Addr × Obj)} {s : Shared} {σ : St} {H : Hp} {R : V → V → Hp → Prop} (I : Inv X pins σ H s)
    (h : ta σ H fun x H1 => tb σ H1 fun y H2 => R x y H2) {Q : Value → Shared → Prop} {f : Value → Value → Sem Value}
    (hf : ∀ v u s2 x y H2, Inv X pins σ H2 s2 → RelV x v → RelV y u → R x y H2 → wpAny (model X.prog X.w) X.A (f v u) Q X.xe s2) :
    wpAny (model X.prog X.w) X.A (eval a X.env) (fun v s₁ => wpAny (model X.prog X.w) X.A (eval b X.env) (fun u s₂ => wpAny (model X.prog X.w) X.A (f v u) Q X.xe s₂) X.xe s₁) X.xe s := by
  refine thn (ha pins s σ H _ I h) fun v s1 ⟨x, H1, I1, r1, q1⟩ => ?_
  refine thn (hb pins s1 σ H1 _ I1 q1) fun u s2 ⟨y, H2, I2, r2, q2⟩ => ?_
  exact hf v u s2 x y H2 I2 r1 r2 q2

theorem pe_op {op : Operator} {r : R2} (ho : OpR X (binaryOp op) r) (ha : PE X a ta) (hb : PE X b tb) : PE X (.BinOp a op b pos) (tOp r ta tb) := by
  intro pins s σ H Q I h
  exact wpAny_BinOp (binT ha hb I h fun v u s2 x y H2 I2 rx ry q => ho pins s2 σ H2 x y v u Q I2 rx ry q)
theorem pe_un {op : UnaryOp} {r : V → Hp → VK → Prop} (ho : UnR X (unaryOp op) r) (ha : PE X a ta) : PE X (.UnaryOp op a pos) (tUn r ta) := by
  intro pins s σ H Q I h
  exact UnaryOp_ (thn (ha pins s σ H _ I h) fun v s1 ⟨x, H1, I1, r1, q1⟩ => ho pins s1 σ H1 x v Q I1 r1 q1)
/-! ### ints -/
theorem opI {f : Value → Value → Sem Value} {C : Int → Int → Prop} {g : Int → Int → Int}
    (rule : ∀ (i j : Int) (t u : Tok) (s : Shared) (Q : Value → Shared → Prop) (E : Value → Shared → Prop), C i j → Q (.int (g i j) s.toks) { s with toks := s.toks + 1 } → wpAny (model X.prog X.w) X.A (f (.int i t) (.int j u)) Q E s) :
    OpR X f (rI C fun i j => .int (g i j)) := by
  intro pins s σ H x y v u Q I rx ry h
  obtain ⟨i, j, rfl, rfl, hc, q⟩ := h
  obtain ⟨t, rfl⟩ := rx
  obtain ⟨t', rfl⟩ := ry
  exact rule i j t t' s _ _ hc ⟨.int (g i j), H, I.tok _, ⟨_, rfl⟩, q⟩
theorem opI0 {f : Value → Value → Sem Value} {g : Int → Int → Int}
    (rule : ∀ (i j : Int) (t u : Tok) (s : Shared) (Q : Value → Shared → Prop) (E : Value → Shared → Prop), Q (.int (g i j) s.toks) { s with toks := s.toks + 1 } → wpAny (model X.prog X.w) X.A (f (.int i t) (.int j u)) Q E s) :
    OpR X f (rI0 fun i j => .int (g i j)) := by
  intro pins s σ H x y v u Q I rx ry h
  obtain ⟨i, j, rfl, rfl, q⟩ := h
  obtain ⟨t, rfl⟩ := rx
  obtain ⟨t', rfl⟩ := ry
  exact rule i j t t' s _ _ ⟨.int (g i j), H, I.tok _, ⟨_, rfl⟩, q⟩
theorem opB0 {f : Value → Value → Sem Value} {g : Int → Int → Bool}
    (rule : ∀ (i j : Int) (t u : Tok) (s : Shared) (Q : Value → Shared → Prop) (E : Value → Shared → Prop), Q (.bool (g i j)) s → wpAny (model X.prog X.w) X.A (f (.int i t) (.int j u)) Q E s) :
    OpR X f (rI0 fun i j => .bl (g i j)) := by
  intro pins s σ H x y v u Q I rx ry h
  obtain ⟨i, j, rfl, rfl, q⟩ := h
  obtain ⟨t, rfl⟩ := rx
  obtain ⟨t', rfl⟩ := ry
  exact rule i j t t' s _ _ ⟨.bl (g i j), H, I, rfl, q⟩

def CDiv (i j : Int) : Prop := 0 < j ∧ j < 1073741824
def CMul (i j : Int) : Prop := (-(2 ^ 64) < i ∧ i < 2 ^ 64) ∨ (-(2 ^ 64) < j ∧ j < 2 ^ 64)
theorem CMul.ok {i j : Int} (h : CMul i j) : IntMulOk i j := by
  rcases h with ⟨h1, h2⟩ | ⟨h1, h2⟩
  · exact .of_left (intBits_le_64 h1 h2)
  · exact .of_right (intBits_le_64 h1 h2)
theorem op_add : OpR X (binaryOp .Add) (rI0 fun i j => .int (i + j)) := opI0 fun _ _ _ _ _ _ _ q => add_int q
theorem op_mul : OpR X (binaryOp .Mult) (rI CMul fun i j => .int (i * j)) := opI fun _ _ _ _ _ _ _ hc q => mul_int q hc.ok
/-- // by a positive divisor -/
theorem op_fdiv : OpR X (binaryOp .FloorDiv) (rI CDiv fun i j => .int (i / j)) := opI fun i j _ _ _ _ _ hc q => by
  have h1 : (0 : Int) < j := hc.1
  have h2 : j < 1073741824 := hc.2
  exact floordiv_int (by omega) (by rw [Int.fdiv_eq_ediv_of_nonneg i (by omega)]; exact q) (.inl (PyProof.noPylong_small (by omega)))
/-- % by a positive divisor of any size -/
theorem op_mod : OpR X (binaryOp .Mod) (rI (fun _ j => 0 < j) fun i j => .int (i % j)) := opI fun i j _ _ _ _ _ hc q => by
  have h1 : (0 : Int) < j := hc
  exact mod_int' (by omega) (by rw [Int.fmod_eq_emod_of_nonneg i (by omega)]; exact q)
theorem unI {f : Value → Sem Value} {g : Int → Int}
    (rule : ∀ (i : Int) (t : Tok) (s : Shared) (Q : Value → Shared → Prop) (E : Value → Shared → Prop), Q (.int (g i) s.toks) { s with toks := s.toks + 1 } → wpAny (model X.prog X.w) X.A (f (.int i t)) Q E s) :
    UnR X f (rU fun i => .int (g i)) := by
  intro pins s σ H x v Q I rx h
  obtain ⟨i, rfl, q⟩ := h
  obtain ⟨t, rfl⟩ := rx
  exact rule i t s _ _ ⟨.int (g i), H, I.tok _, ⟨_, rfl⟩, q⟩
theorem un_neg : UnR X (unaryOp .USub) (rU fun i => .int (-i)) := unI fun _ _ _ _ _ q => neg_int q
/-! ### bools among ints: n += (a < b) -/
end

/-! ### comparisons -/
/-- the scalars that == tells apart as data does -/
def scal : V → V → Bool
  | .non, .non => true | .non, .int _ => true | .int _, .non => true | .non, .bl _ => true | .bl _, .non => true | .non, .str _ => true | .str _, .non => true
  | .int _, .int _ => true | .bl _, .bl _ => true | .str _, .str _ => true | .byt _, .byt _ => true
  | .int _, .str _ => true | .str _, .int _ => true | .bl _, .str _ => true | .str _, .bl _ => true
  | _, _ => false
def rEq : R2 := fun x y H Q => scal x y = true ∧ Q (.bl (decide (x = y))) H
def rNe : R2 := fun x y H Q => scal x y = true ∧ Q (.bl (!decide (x = y))) H

theorem dec_int {i j : Int} : decide (V.int i = V.int j) = (i == j) := by
  rw [Bool.eq_iff_iff]
  simp
theorem dec_bl {i j : Bool} : decide (V.bl i = V.bl j) = (i == j) := by
  rw [Bool.eq_iff_iff]
  simp
theorem dec_str {i j : Str} : decide (V.str i = V.str j) = (i == j) := by
  rw [Bool.eq_iff_iff]
  simp
theorem dec_byt {i j : Array UInt8} : decide (V.byt i = V.byt j) = (i.toList == j.toList) := by
  rw [Bool.eq_iff_iff]
  cases i
  cases j
  simp

section
variable {X : Cx} {a b c : Expr} {ta tb tc : TE} {pos : Pos}
theorem fin_bl {pins : List (Addr × Obj)} {σ : St} {H : Hp} {s : Shared} {Q : VK} {k k' : Bool} (I : Inv X pins σ H s) (q : Q (.bl k) H) (e : k = k') : EP X pins σ Q (.bool k') s := by
  subst e
  exact ⟨.bl k, H, I, rfl, q⟩
theorem op_eq : OpR X (compareOp .Eq) rEq := by
  intro pins s σ H x y v u Q I rx ry h
  obtain ⟨hs, q⟩ := h
  cases x with
  | non =>
    cases rx
    cases y with
    | non => cases ry; exact PySem.EqNone.eq_none_none (fin_bl I q (by simp))
    | bl j => cases ry; exact PySem.EqNone.eq_none_bool (fin_bl I q (by simp))
    | int j => obtain ⟨t', rfl⟩ := ry; exact PySem.EqNone.eq_none_int (fin_bl I q (by simp))
    | str j => obtain ⟨t', rfl⟩ := ry; exact PySem.EqNone.eq_none_str (fin_bl I q (by simp))
    | _ => exact absurd (show false = true from hs) Bool.false_ne_true
  | bl i =>
    cases rx
    cases y with
    | non => cases ry; exact PySem.EqNone.eq_bool_none (fin_bl I q (by simp))
    | bl j => cases ry; exact eq_bool (fin_bl I q dec_bl)
    | str j => obtain ⟨t', rfl⟩ := ry; exact PySem.EqMixed.eq_bool_str (fin_bl I q (by simp))
    | _ => exact absurd (show false = true from hs) Bool.false_ne_true
  | int i =>
    obtain ⟨t, rfl⟩ := rx
    cases y with
    | non => cases ry; exact PySem.EqNone.eq_int_none (fin_bl I q (by simp))
    | int j => obtain ⟨t', rfl⟩ := ry; exact eq_int (fin_bl I q dec_int)
    | str j => obtain ⟨t', rfl⟩ := ry; exact PySem.EqMixed.eq_int_str (fin_bl I q (by simp))
    | _ => exact absurd (show false = true from hs) Bool.false_ne_true
  | str i =>
    obtain ⟨t, rfl⟩ := rx
    cases y with
    | non => cases ry; exact PySem.EqNone.eq_str_none (fin_bl I q (by simp))
    | bl j => cases ry; exact PySem.EqMixed.eq_str_bool (fin_bl I q (by simp))
    | int j => obtain ⟨t', rfl⟩ := ry; exact PySem.EqMixed.eq_str_int (fin_bl I q (by simp))
    | str j => obtain ⟨t', rfl⟩ := ry; exact eq_str (fin_bl I q dec_str)
    | _ => exact absurd (show false = true from hs) Bool.false_ne_true
  | byt i =>
    obtain ⟨t, rfl⟩ := rx
    cases y with
    | byt j => obtain ⟨t', rfl⟩ := ry; exact PySem.W.eq_bytes (fin_bl I q dec_byt)
    | _ => exact absurd (show false = true from hs) Bool.false_ne_true
  | _ => cases y <;> exact absurd (show false = true from hs) Bool.false_ne_true
theorem op_ne : OpR X (compareOp .NotEq) rNe := by
  intro pins s σ H x y v u Q I rx ry h
  obtain ⟨hs, q⟩ := h
  cases x with
  | non =>
    cases rx
    cases y with
    | non => cases ry; exact PySem.EqNone.ne_none_none (fin_bl I q (by simp))
    | bl j => cases ry; exact PySem.EqNone.ne_none_bool (fin_bl I q (by simp))
    | int j => obtain ⟨t', rfl⟩ := ry; exact PySem.EqNone.ne_none_int (fin_bl I q (by simp))
    | str j => obtain ⟨t', rfl⟩ := ry; exact PySem.EqNone.ne_none_str (fin_bl I q (by simp))
    | _ => exact absurd (show false = true from hs) Bool.false_ne_true
  | bl i =>
    cases rx
    cases y with
    | non => cases ry; exact PySem.EqNone.ne_bool_none (fin_bl I q (by simp))
    | bl j => cases ry; exact ne_bool (fin_bl I q (congrArg not dec_bl))
    | str j => obtain ⟨t', rfl⟩ := ry; exact PySem.EqMixed.ne_bool_str (fin_bl I q (by simp))
    | _ => exact absurd (show false = true from hs) Bool.false_ne_true
  | int i =>
    obtain ⟨t, rfl⟩ := rx
    cases y with
    | non => cases ry; exact PySem.EqNone.ne_int_none (fin_bl I q (by simp))
    | int j => obtain ⟨t', rfl⟩ := ry; exact ne_int (fin_bl I q (congrArg not dec_int))
    | str j => obtain ⟨t', rfl⟩ := ry; exact PySem.EqMixed.ne_int_str (fin_bl I q (by simp))
    | _ => exact absurd (show false = true from hs) Bool.false_ne_true
  | str i =>
    obtain ⟨t, rfl⟩ := rx
    cases y with
    | non => cases ry; exact PySem.EqNone.ne_str_none (fin_bl I q (by simp))
    | bl j => cases ry; exact PySem.EqMixed.ne_str_bool (fin_bl I q (by simp))
    | int j => obtain ⟨t', rfl⟩ := ry; exact PySem.EqMixed.ne_str_int (fin_bl I q (by simp))
    | str j => obtain ⟨t', rfl⟩ := ry; exact ne_str (fin_bl I q (congrArg not dec_str))
    | _ => exact absurd (show false = true from hs) Bool.false_ne_true
  | byt i =>
    obtain ⟨t, rfl⟩ := rx
    cases y with
    | byt j => obtain ⟨t', rfl⟩ := ry; exact PySem.W.ne_bytes (fin_bl I q (congrArg not dec_byt))
    | _ => exact absurd (show false = true from hs) Bool.false_ne_true
  | _ => cases y <;> exact absurd (show false = true from hs) Bool.false_ne_true

theorem op_lt : OpR X (compareOp .Lt) (rI0 fun i j => .bl (decide (i < j))) := opB0 fun _ _ _ _ _ _ _ q => lt_int q
theorem op_gt : OpR X (compareOp .Gt) (rI0 fun i j => .bl (decide (j < i))) := opB0 fun _ _ _ _ _ _ _ q => gt_int q
theorem op_ge : OpR X (compareOp .GtE) (rI0 fun i j => .bl (decide (j ≤ i))) := opB0 fun _ _ _ _ _ _ _ q => ge_int q
/-- two rules for one operation: by cases -/
theorem OpR.or {f : Value → Value → Sem Value} {r r' : R2} (h : OpR X f r) (h' : OpR X f r') : OpR X f (fun x y H Q => r x y H Q ∨ r' x y H Q) := by
  intro pins s σ H x y v u Q I rx ry q
  rcases q with q | q
  · exact h pins s σ H x y v u Q I rx ry q
  · exact h' pins s σ H x y v u Q I rx ry q

theorem nomark (b : Expr) {op : CmpOp} (h : op ≠ .In := by decide) (h2 : op ≠ .NotIn := by decide) : behindInMarks op b = false := by
  have e1 : (op == CmpOp.In) = false := by cases op <;> first | rfl | exact absurd rfl h
  have e2 : (op == CmpOp.NotIn) = false := by cases op <;> first | rfl | exact absurd rfl h2
  cases b <;> simp [behindInMarks, e1, e2]
/-- a comparison as a value; hm: nomark b, or (for in, not in) by with_unfolding_all rfl -/
theorem pe_cmpR {op : CmpOp} {r : R2} (ho : OpR X (compareOp op) r) (ha : PE X a ta) (hb : PE X b tb) (hm : behindInMarks op b = false) : PE X (.Compare a [op] [b] pos) (tOp r ta tb) := by
  intro pins s σ H Q I h
  exact wpAny_Compare1 (binT ha hb I h fun v u s2 x y H2 I2 rx ry q => ho pins s2 σ H2 x y v u Q I2 rx ry q) hm
/-- a reading of a value as a test -/
def tTest (t : TE) : TT := fun σ H Q => t σ H fun x H' => ∃ k, x = .bl k ∧ Q k H'
theorem pt_cmpR {op : CmpOp} {r : R2} (ho : OpR X (compareOp op) r) (ha : PE X a ta) (hb : PE X b tb) (hm : behindInMarks op b = false) : PT X (.Compare a [op] [b] pos) (tTest (tOp r ta tb)) := by
  intro pins s σ H Q I h
  refine wpAny_isTrue_Compare1 (thn (ha pins s σ H _ I h) fun v s1 ⟨x, H1, I1, r1, q1⟩ => thn (hb pins s1 σ H1 _ I1 q1) fun u s2 ⟨y, H2, I2, r2, q2⟩ =>
    thn (ho pins s2 σ H2 x y v u _ I2 r1 r2 q2) fun c s3 ⟨z, H3, I3, r3, k, e, q3⟩ => ?_) hm
  subst e
  cases r3
  exact wpAny_truthy_bool ⟨H3, I3, q3⟩
/-! ### truth -/
theorem line63 : (sizeLine : Nat) < 2 ^ 63 := by rw [sizeLine_eq]; decide
/-! ### strs and bytes -/
theorem op_add_str : OpR X (binaryOp .Add) (fun x y H Q => ∃ i j, x = .str i ∧ y = .str j ∧ i.length + j.length ≤ sizeLine ∧ Q (.str (i ++ j)) H) := by
  intro pins s σ H x y v u Q I rx ry h
  obtain ⟨i, j, rfl, rfl, hz, q⟩ := h
  obtain ⟨t, rfl⟩ := rx
  obtain ⟨t', rfl⟩ := ry
  exact add_str (fun t' tk => ⟨.str (i ++ j), H, I.tok _, ⟨_, rfl⟩, q⟩) hz
/-! ### scalar builtins, by CallR -/
theorem vals1 {x : V} {us : List Value} (r : Vals [x] us) : ∃ u, us = [u] ∧ RelV x u := by
  cases r with
  | cons r1 r2 => cases r2; exact ⟨_, rfl, r1⟩
theorem vals2 {x y : V} {us : List Value} (r : Vals [x, y] us) : ∃ u w', us = [u, w'] ∧ RelV x u ∧ RelV y w' := by
  cases r with
  | cons r1 r2 =>
    cases r2 with
    | cons r3 r4 => cases r4; exact ⟨_, _, rfl, r1, r3⟩
theorem call_min2 (hc : X.calm = true) : CallR X (.builtin "min") (fun xs H Q => ∃ i j, xs = [.int i, .int j] ∧ Q (.int (if j < i then j else i)) H) := by
  intro pins s σ H xs us Q I r h
  obtain ⟨i, j, rfl, q⟩ := h
  obtain ⟨u, w', rfl, ⟨t, rfl⟩, ⟨t', rfl⟩⟩ := vals2 r
  refine min_two_ints (I.ok.hd hc) fun h' tk k => ⟨_, H, I.kept k, ?_, q⟩
  by_cases hj : j < i
  · rw [if_pos hj, if_pos hj]; exact ⟨_, rfl⟩
  · rw [if_neg hj, if_neg hj]; exact ⟨_, rfl⟩
end
end L2

namespace L2
open PySem PySem.Spec PyProof.Rows

/-! ### an instance, its attributes a map -/
structure ObjM (h : Heap) (x dx C : Addr) (mA : Str → Option Value) : Prop where
  obj : h.get? x = some (PySem.W.instObj C dx)
  ns : h.Ns1 dx mA
  ne : dx ≠ x

section
variable {prog : Program} {w : World} {A : Around} {E : Value → Shared → Prop} {s : Shared} {K : PySem.W.Frag} {x dx C f : Addr} {mA : Str → Option Value} {name : Str} {v : Value}

end

/-! ### the attributes as a list of pairs -/
section
variable {P : Program} {w : World} {H H' : Hp} {h h' : Heap} {a C dx : Addr} {fs fs' : List (Str × V)}
end

/-! ### what of the text a class must have -/
structure Cls (K : PySem.W.Frag) (C : Addr) : Prop where
  pg : PySem.W.plainGet K C Str.empty = true
  hd : PySem.W.hasDictIn K C = true
  po : PySem.W.plainOver K C = true
  sa : PySem.W.findIn K (.ref C) "__setattr__" = some (some (.builtin "object.__setattr__"))
theorem Cls.get {K : PySem.W.Frag} {C : Addr} (c : Cls K C) (f : Str) : PySem.W.plainGet K C f = true := c.pg
/-- a constant of the class -/
structure Con (K : PySem.W.Frag) (C : Addr) (f : Str) (v : V) (u : Value) : Prop where
  at_ : PySem.W.findIn K (.ref C) f = some (some u)
  rel : RelV v u
  get : PySem.W.specialIn K u "__get__" = some none
  cp : PySem.W.copiedNames.contains f = false
/-- a method: a plain def of the class or of one above it -/
structure Meth (K : PySem.W.Frag) (C : Addr) (m : Str) (f : Addr) : Prop where
  at_ : PySem.W.findIn K (.ref C) m = some (some (.ref f))
  fn : PySem.W.isFn K (.ref f) = true
  kp : PySem.W.keepIn K (.ref f) = true

section
variable {X : Cx} {pins : List (Addr × Obj)} {σ : St} {H : Hp} {s : Shared} {a C dx : Addr} {fs : List (Str × V)} {f : Str} {v : V} {A : Around} {E : Value → Shared → Prop}

/-- a new instance, tracked, without attributes -/
theorem Inv.made (I : Inv X pins σ H s) : Inv X pins σ (upd (upd H s.heap.objs.size (.own (s.heap.objs.size + 1))) (s.heap.objs.size + 1) (.ins C s.heap.objs.size []))
    { s with heap := (s.heap.push PySem.W.emptyDict).push (PySem.W.instObj C s.heap.objs.size) } := by
  have e1 : (s.heap.push PySem.W.emptyDict).get? s.heap.objs.size = some PySem.W.emptyDict := Heap.get?_push_size s.heap rfl
  have e2 : ((s.heap.push PySem.W.emptyDict).push (PySem.W.instObj C s.heap.objs.size)).get? (s.heap.objs.size + 1) = some (PySem.W.instObj C s.heap.objs.size) := by
    have := Heap.get?_push_size (s.heap.push PySem.W.emptyDict) (o := PySem.W.instObj C s.heap.objs.size) rfl
    rwa [Heap.size_push] at this
  have e3 : (s.heap.push PySem.W.emptyDict).Ns s.heap.objs.size (fun _ => none) := ⟨PySem.W.emptyDict, #[], _, e1, rfl, (fun e he => absurd he (by simp)), fun _ => rfl⟩
  have I1 := I.laid (a := s.heap.objs.size) (o := .own (s.heap.objs.size + 1)) (h' := s.heap.push PySem.W.emptyDict) (t' := s.toks) (fun b u q => Heap.get?_push_of_some _ q) (Nat.le_refl _) ⟨_, e1⟩
  refine I1.laid (a := s.heap.objs.size + 1) (o := .ins C s.heap.objs.size []) (t' := s.toks) (fun b u q => Heap.get?_push_of_some _ q) (Nat.le_of_eq (Heap.size_push _ _)) ?_
  have ne : s.heap.objs.size ≠ s.heap.objs.size + 1 := Nat.ne_of_lt (Nat.lt_succ_self _)
  refine ⟨by rw [upd_ne ne, upd_same], Nat.zero_le _, ne, e2, fun _ => none, (Heap.Ns1.of_empty e3).at fun o q => Heap.get?_push_of_some _ q, fun _ => True.intro, fun y hy => absurd rfl hy⟩

end

/-! ### readings and rules -/
section
variable {X : Cx} {o e value : Expr} {f : Str} {pos pos' tpos : Pos} {ta tv : TE}
end

/-! ### isinstance -/
section
variable {X : Cx} {pins : List (Addr × Obj)} {σ : St} {H : Hp} {s : Shared} {A : Around} {E : Value → Shared → Prop} {Q : Value → Shared → Prop} {c : Value} {b : Bool}
/-- the type of a value, as the fragment's deciders take it; for an instance its class -/
inductive TyOf (K : PySem.W.Frag) (H : Hp) : V → Value → Prop where
  | non : TyOf K H .non (.type "NoneType")
  | bl (x : Bool) : TyOf K H (.bl x) (.type "bool")
  | int (i : Int) : TyOf K H (.int i) (.type "int")
  | str (x : Str) : TyOf K H (.str x) (.type "str")
  | flt (x : UInt64) : TyOf K H (.flt x) (.type "float")
  | lst {a : Addr} {xs : List V} (e : H a = some (.lst xs)) : TyOf K H (.ref a) (.type "list")
  | frz {a : Addr} {o : Obj} {xs : List V} (e : H a = some (.frz o (.lst xs))) : TyOf K H (.ref a) (.type "list")
  | tup {a : Addr} {xs : List V} (e : H a = some (.tup xs)) : TyOf K H (.ref a) (.type "tuple")
  | dK {a : Addr} {kvs : List (Key × V)} (e : H a = some (.dK kvs)) : TyOf K H (.ref a) (.type "dict")
  | dT {a : Addr} {kvs : List (List Key × V)} (e : H a = some (.dT kvs)) : TyOf K H (.ref a) (.type "dict")
  | ins {a C dx : Addr} {fs : List (Str × V)} (e : H a = some (.ins C dx fs)) (cl : Cls K C) (ha : PySem.W.findIn K (.ref C) "__class__" = some (some (.builtin "object.__class__")))
      (hn : PySem.W.specialIn K (.builtin "object.__class__") "__get__" = some (some (.builtin "getset_descriptor.__get__"))) (htk : PySem.W.takesIn K (.builtin "object.__class__") = some true)
      (hm : PySem.W.mroIn K C (.type "object") = some true) : TyOf K H (.ref a) (.ref C)
end
end L2

namespace L2
open PySem PySem.Spec PyProof.Rows

/-! ### room -/
structure Room (k : Nat) (A : Around) : Prop where
  hd : A.handled = none
  dp : A.depth + 3 * k + 5 < recursionLimit
  un : A.units + 16 * k + 200 < cLine
theorem Room.mono {j k : Nat} {A : Around} (r : Room k A) (h : j ≤ k) : Room j A := ⟨r.hd, by have := r.dp; omega, by have := r.un; omega⟩
theorem Room.deeper {k : Nat} {A : Around} (r : Room (k + 1) A) (env : Env) : Room k (A.deeper env) :=
  ⟨r.hd, by have := r.dp; show A.depth + 1 + 3 * k + 5 < _; omega, by have := r.un; show A.units + 3 + 16 * k + 200 < _; omega⟩
theorem Room.in1 {k : Nat} {A : Around} (r : Room (k + 1) A) : Room k A.in1 :=
  ⟨r.hd, by have := r.dp; show A.depth + 3 * k + 5 < _; omega, by have := r.un; show A.units + 1 + 16 * k + 200 < _; omega⟩
theorem Room.depth {k : Nat} {A : Around} (r : Room k A) : A.depth < recursionLimit := by have := r.dp; omega
theorem Room.units {k : Nat} {A : Around} (r : Room k A) : A.units + 64 < cLine := by have := r.un; omega
/-! ### argument lists and displays -/
def tNil : TA := fun _ H Q => Q [] H
def tCons (ta : TE) (tr : TA) : TA := fun σ H Q => ta σ H fun x H1 => tr σ H1 fun xs H2 => Q (x :: xs) H2
section
variable {X : Cx} {e : Expr} {es : List Expr} {te : TE} {t : TA} {pos : Pos}
theorem pa_nil : PA X [] tNil := fun _ _ _ _ H Q I h => Calls.spliced_nil ⟨[], H, I, .nil, h⟩
theorem pa_cons (ha : PE X e te) (hr : PA X es t) (hs : starEach (e :: es) X.env = (false, eval e X.env) :: starEach es X.env := by rfl) : PA X (e :: es) (tCons te t) := by
  intro pos pins s σ H Q I h
  rw [hs]
  show wpAny _ _ (spliced ((false, eval e X.env) :: backTo pos (starEach es X.env))) _ _ s
  refine Calls.spliced_cons (thn (ha pins s σ H _ I h) fun u s1 ⟨x, H1, I1, r1, q1⟩ => ?_)
  exact thn (hr pos pins s1 σ H1 _ I1 q1) fun us s2 ⟨xs, H2, I2, r2, q2⟩ => ⟨x :: xs, H2, I2, .cons r1 r2, q2⟩

/-- a tuple, a list of written items -/
def tTup (t : TA) : TE := fun σ H Q => t σ H fun xs H1 => xs.length ≤ sizeLine ∧ ∀ p, H1 p = none → Q (.ref p) (upd H1 p (.tup xs))
def tLst (t : TA) : TE := fun σ H Q => t σ H fun xs H1 => xs.length ≤ sizeLine ∧ ∀ p, H1 p = none → Q (.ref p) (upd H1 p (.lst xs))
theorem pe_tup {x1} (h : PA X es t) : PE X (.Tuple es x1 pos) (tTup t) := by
  intro pins s σ H Q I hq
  refine wpAny_Tuple_spliced (thn (h pos pins s σ H _ I hq) fun us s1 ⟨xs, H1, I1, r, z, q⟩ => ⟨by rw [← r.length]; exact z, ?_⟩)
  have hf : H1 s1.heap.objs.size = none := I1.hok.fresh (Nat.le_refl _)
  refine ⟨.ref s1.heap.objs.size, upd H1 s1.heap.objs.size (.tup xs), I1.laid (t' := s1.toks) (fun b u e => Heap.get?_push_of_some _ e) (Nat.le_refl _) ?_, rfl, q _ hf⟩
  exact ⟨z, us, r, ⟨_, Heap.get?_push_size _ rfl, rfl, _, rfl⟩⟩
theorem pe_lst (h : PA X es t) : PE X (.List es pos) (tLst t) := by
  intro pins s σ H Q I hq
  refine wpAny_List_spliced (thn (h pos pins s σ H _ I hq) fun us s1 ⟨xs, H1, I1, r, z, q⟩ => ⟨by rw [← r.length]; exact z, ?_⟩)
  have hf : H1 s1.heap.objs.size = none := I1.hok.fresh (Nat.le_refl _)
  refine ⟨.ref s1.heap.objs.size, upd H1 s1.heap.objs.size (.lst xs), I1.laid (t' := s1.toks) (fun b u e => Heap.get?_push_of_some _ e) (Nat.le_refl _) ?_, rfl, q _ hf⟩
  exact ⟨z, us, 0, r, Heap.get?_push_size _ rfl⟩
end

/-! ### what a def promises -/
/-- a def's promise: the bound arguments in the parameters' order, the heap, the wanted end, the wanted exception -/
abbrev Sp := List V → Hp → VK → XK → Prop
/-- how an exception lies behind a call (file 08 gives it): the callers' frames, abstract heap and state ahead of the call, the wish, the exception, the state -/
abbrev CXT := List Env → Hp → Shared → XK → Value → Shared → Prop

/-- the state at a call -/
structure Env0 (P : Program) (w : World) (K : PySem.W.Frag) (mg : Str → Option Value) (base : Heap) (A : Around) (outer : List Env) (s : Shared) (H : Hp) : Prop where
  frames : A.frames = some outer
  mod : Mod K mg base
  bs : ∀ b o, base.get? b = some o → s.heap.get? b = some o ∧ H b = none
  bsz : base.objs.size ≤ s.heap.objs.size
  funs : s.heap.FunFrames base outer
  frf : ∀ b ∈ frs outer, H b = none
  hok : HOk P w H s.heap
  bare : AllBare s.gens
/-- a call's end -/
def CE (outer : List Env) (P : Program) (w : World) (H : Hp) (s : Shared) (Q : VK) (u : Value) (s' : Shared) : Prop :=
  ∃ v H', s'.os = s.os ∧ AllBare s'.gens ∧ Un (frs outer) [] H H' s.heap s'.heap ∧ HOk P w H' s'.heap ∧ RelV v u ∧ Q v H'
def CR (CX : CXT) (outer : List Env) (P : Program) (w : World) (H : Hp) (s : Shared) (Q : VK) (E : XK) (r : Result) (s' : Shared) : Prop :=
  match r with
  | .ok (.ret u) => CE outer P w H s Q u s'
  | .ok _ => False
  | .error e => CX outer H s E e s'
structure FnOk (P : Program) (w : World) (K : PySem.W.Frag) (mg : Str → Option Value) (base : Heap) (CX : CXT) (k : Nat) (f : Addr) (fd : FuncData) (ps : List Str) (sp : Sp) : Prop where
  len : ∀ vs H Q E, sp vs H Q E → vs.length = ps.length
  run : ∀ (A : Around) (outer : List Env) (s : Shared) (H : Hp) (args : Args) (us : List Value) (vs : List V) (Q : VK) (E : XK), Room k A → Env0 P w K mg base A outer s H → BindsTo s fd args (ps.zip us) → Vals vs us → sp vs H Q E →
    codeAny (model P w) A (.call (.ref f) args) (CR CX outer P w H s Q E) s
theorem FnOk.mono {P : Program} {w : World} {K : PySem.W.Frag} {mg : Str → Option Value} {base : Heap} {CX : CXT} {j k : Nat} {f : Addr} {fd : FuncData} {ps : List Str} {sp : Sp} (F : FnOk P w K mg base CX j f fd ps sp) (h : j ≤ k) :
    FnOk P w K mg base CX k f fd ps sp := ⟨F.len, fun A outer s H args us vs Q E hr => F.run A outer s H args us vs Q E (hr.mono h)⟩
/-- a weaker promise -/
theorem FnOk.imp {P : Program} {w : World} {K : PySem.W.Frag} {mg : Str → Option Value} {base : Heap} {CX : CXT} {k : Nat} {f : Addr} {fd : FuncData} {ps : List Str} {sp sp' : Sp} (F : FnOk P w K mg base CX k f fd ps sp)
    (h : ∀ vs H Q E, sp' vs H Q E → sp vs H Q E) : FnOk P w K mg base CX k f fd ps sp' :=
  ⟨fun vs H Q E q => F.len vs H Q E (h _ _ _ _ q), fun A outer s H args us vs Q E hr he hb hv hs => F.run A outer s H args us vs Q E hr he hb hv (h _ _ _ _ hs)⟩

theorem Env0.in1 {P : Program} {w : World} {K : PySem.W.Frag} {mg : Str → Option Value} {base : Heap} {A : Around} {outer : List Env} {s : Shared} {H : Hp} (e : Env0 P w K mg base A outer s H) :
    Env0 P w K mg base A.in1 outer s H := ⟨e.frames, e.mod, e.bs, e.bsz, e.funs, e.frf, e.hok, e.bare⟩

section
variable {X : Cx} {pins : List (Addr × Obj)} {σ : St} {H : Hp} {s s' : Shared}
/-- from a body: what a callee wants -/
theorem Inv.env0 (I : Inv X pins σ H s) : Env0 X.prog X.w X.K X.mg X.base X.A X.stack s H :=
  ⟨I.ok.frames, I.ok.mod, I.bs, Nat.le_trans I.ok.bsz I.sz, I.stack, I.stkFree, I.hok, I.bare⟩
/-- behind a call -/
theorem Inv.after {Q : VK} {u : Value} (I : Inv X pins σ H s) (h : CE X.stack X.prog X.w H s Q u s') : EP X pins σ Q u s' := by
  obtain ⟨v, H', os, bare, un, hok, r, q⟩ := h
  obtain ⟨hh, g, d, t, os'⟩ := s'
  obtain rfl : os' = s.os := os
  exact ⟨v, H', I.call (h' := hh) (g' := g) (d' := d) (t' := t) (ch := []) un hok bare (fun b z => absurd z (by simp)), r, q⟩
end

/-! ### calls -/
/-- f(..): the written arguments, then the defaults dvs; E: what is wanted of an exception -/
def tCall (sp : Sp) (dvs : List V) (E : XK) (t : TA) : TE := fun σ H Q => t σ H fun vs H1 => sp (vs ++ dvs) H1 Q E
/-- how the parameters are bound: us the positional arguments, kw the keywords' values by name, ds the defaults that fill up -/
def Binds (K : PySem.W.Frag) (fd : FuncData) (ps : List Str) (ds : List Value) : Prop :=
  ∀ (s : Shared) (us : List Value), K.In s.heap → (us ++ ds).length = ps.length → BindsTo s fd ⟨us, []⟩ (ps.zip (us ++ ds))
/-- every parameter is given -/
theorem Binds.all {K : PySem.W.Frag} {fd : FuncData} {ps : List Str} (h : ∀ us : List Value, us.length = ps.length → bindArgs fd ⟨us, []⟩ = pure (ps.zip us)) : Binds K fd ps [] := fun s us _ hl => by
  rw [List.append_nil] at hl ⊢
  exact .of_eq (h us hl)

/-- an exception of a callee reaches what this body wants of exceptions -/
def Passes (CX : CXT) (X : Cx) (E : XK) : Prop := ∀ (pins : List (Addr × Obj)) (σ : St) (H : Hp) (s : Shared) (e : Value) (s' : Shared), Inv X pins σ H s → CX X.stack H s E e s' → X.xe e s'

section
variable {X : Cx} {CX : CXT} {k : Nat} {f C : Addr} {fd : FuncData} {ps : List Str} {sp : Sp} {dvs : List V} {ds : List Value} {E : XK} {x m : Str} {p pos apos : Pos} {e o : Expr} {es : List Expr} {ta : TE} {t : TA}

/-- the callee runs -/
theorem run_fn {pins : List (Addr × Obj)} {σ : St} {H : Hp} {s : Shared} {Q : VK} {us : List Value} {vs : List V} (F : FnOk X.prog X.w X.K X.mg X.base CX k f fd ps sp) (hr : Room k X.A) (hb : Binds X.K fd ps ds) (hd : Vals dvs ds) (hx : Passes CX X E)
    (I : Inv X pins σ H s) (r : Vals vs us) (h : sp (vs ++ dvs) H Q E) : wpAny (model X.prog X.w) X.A (call (.ref f) us) (EP X pins σ Q) X.xe s := by
  have r2 : Vals (vs ++ dvs) (us ++ ds) := r.append hd
  have hl : (us ++ ds).length = ps.length := by rw [← r2.length]; exact F.len _ _ _ _ h
  refine wpAny_call (codeAny_mono (F.run X.A X.stack s H ⟨us, []⟩ (us ++ ds) (vs ++ dvs) Q E hr I.env0 (hb s us I.kIn hl) r2 h) fun r s' hq => ?_)
  cases r with
  | error e => exact hx pins σ H s e s' I hq
  | ok fl =>
    cases fl with
    | ret u => exact I.after hq
    | next => exact False.elim hq
    | brk => exact False.elim hq
    | cont => exact False.elim hq

theorem pe_call (F : FnOk X.prog X.w X.K X.mg X.base CX k f fd ps sp) (hr : Room k X.A) (hg : Gl X x) (hm : X.mg x = some (.ref f)) (hk : PySem.W.keepIn X.K (.ref f) = true) (hb : Binds X.K fd ps ds) (hd : Vals dvs ds) (hx : Passes CX X E)
    (ha : PA X (e :: es) t) (hdb : (x == ("__debug__" : Str)) = false := by decide) (he : starEach (e :: es) X.env = (false, eval e X.env) :: starEach es X.env := by rfl) (hpl : (backTo pos (starEach es X.env)).any (·.1) = false := by rfl) :
    PE X (.Call (.Name x p) (e :: es) [] pos) (tCall sp dvs E t) := by
  intro pins s σ H Q I h
  refine wpAny_Call_Name_kw (ld_glob I hg hm ?_ hdb)
  refine PySem.W.callWith_K (h₀ := X.base) I.ok.mod.kin hk (thn (ha pos pins s σ H _ I h) fun us s1 ⟨vs, H1, I1, r, q⟩ => ⟨I1.kIn, ?_⟩) he hpl
  exact run_fn F hr hb hd hx I1 r q
/-- what a class must have to be made -/
structure Mk (K : PySem.W.Frag) (C f : Addr) : Prop where
  makes : PySem.W.makesIn K C = true
  init : PySem.W.findIn K (.ref C) "__init__" = some (some (.ref f))
  fn : PySem.W.isFn K (.ref f) = true
  kp : PySem.W.keepIn K (.ref C) = true

end

/-! ### keywords -/
section
variable {X : Cx} {CX : CXT} {k : Nat} {f C : Addr} {fd : FuncData} {ps ks : List Str} {sp : Sp} {E : XK} {x m : Str} {p pos apos kpos : Pos} {e o : Expr} {es : List Expr} {kws : List Keyword} {te ta : TE} {t tk : TA} {nm : Option Str}
/-- how a call with keywords binds: g puts the positional values us and the keywords' values ws (names ks) in the parameters' order, defaults among them -/
structure KBinds (K : PySem.W.Frag) (fd : FuncData) (ps ks : List Str) (g : List Value → List Value → List Value) (gV : List V → List V → List V) : Prop where
  to : ∀ (s : Shared) (us ws : List Value), K.In s.heap → (g us ws).length = ps.length → BindsTo s fd ⟨us, ks.zip ws⟩ (ps.zip (g us ws))
  rel : ∀ {vs : List V} {us : List Value} {zs : List V} {ws : List Value}, Vals vs us → Vals zs ws → Vals (gV vs zs) (g us ws)
variable {g : List Value → List Value → List Value} {gV : List V → List V → List V}
end

/-! ### a def's body keeps its promise -/
/-- names: the parameters first -/
structure FnScope (N P : List Str) (sc : Scope) : Prop where
  kind : sc.kind = .function
  co : sc.isCoroutine = false
  gen : sc.isGenerator = false
  nd : N.Nodup
  pre : N.take P.length = P
  par : ∀ x ∈ P, sc.names.lookup x = some .local ∨ sc.names.lookup x = some .cell
  nofree : ∀ y ∈ sc.names, y.2 ≠ .free

theorem bindL_out {kindOf : Str → Option NameKind} {x : Str} : ∀ {binds : List (Str × Value)} {m : Str → Option Value}, (∀ v, (x, v) ∉ binds) → bindL kindOf binds m x = m x
  | [], _, _ => rfl
  | (n, v) :: r, m, h => by
    unfold bindL
    rw [bindL_out fun w hw => h w (List.mem_cons_of_mem _ hw)]
    split
    · have : x ≠ n := by rintro rfl; exact h v List.mem_cons_self
      simp [this]
    · rfl
theorem bindC_out {kindOf : Str → Option NameKind} {x : Str} : ∀ {binds : List (Str × Value)} {m : Str → Option Value}, (∀ v, (x, v) ∉ binds) → bindC kindOf binds m x = m x
  | [], _, _ => rfl
  | (n, v) :: r, m, h => by
    unfold bindC
    rw [bindC_out fun w hw => h w (List.mem_cons_of_mem _ hw)]
    split
    · rfl
    · have : x ≠ n := by rintro rfl; exact h v List.mem_cons_self
      simp [this]
theorem bindL_get {kindOf : Str → Option NameKind} {x : Str} {v : Value} : ∀ {P : List Str} {vs : List Value} {i : Nat} {m : Str → Option Value}, P.Nodup → P[i]? = some x → vs[i]? = some v → kindOf x = some .local →
    bindL kindOf (P.zip vs) m x = some v
  | [], _, _, _, _, h, _, _ => by simp at h
  | _ :: _, [], _, _, _, _, h, _ => by simp at h
  | p :: P, w :: vs, 0, m, nd, h1, h2, hk => by
    simp at h1 h2; subst h1; subst h2
    show bindL kindOf ((p, w) :: P.zip vs) m p = _
    unfold bindL
    rw [bindL_out fun v hv => (List.nodup_cons.mp nd).1 (List.of_mem_zip hv).1, if_pos hk]
    simp
  | p :: P, w :: vs, i + 1, m, nd, h1, h2, hk => by
    show bindL kindOf ((p, w) :: P.zip vs) m x = _
    unfold bindL
    exact bindL_get (i := i) (List.nodup_cons.mp nd).2 (by simpa using h1) (by simpa using h2) hk
theorem bindC_get {kindOf : Str → Option NameKind} {x : Str} {v : Value} : ∀ {P : List Str} {vs : List Value} {i : Nat} {m : Str → Option Value}, P.Nodup → P[i]? = some x → vs[i]? = some v → kindOf x ≠ some .local →
    bindC kindOf (P.zip vs) m x = some v
  | [], _, _, _, _, h, _, _ => by simp at h
  | _ :: _, [], _, _, _, _, h, _ => by simp at h
  | p :: P, w :: vs, 0, m, nd, h1, h2, hk => by
    simp at h1 h2; subst h1; subst h2
    show bindC kindOf ((p, w) :: P.zip vs) m p = _
    unfold bindC
    rw [bindC_out fun v hv => (List.nodup_cons.mp nd).1 (List.of_mem_zip hv).1, if_neg hk]
    simp
  | p :: P, w :: vs, i + 1, m, nd, h1, h2, hk => by
    show bindC kindOf ((p, w) :: P.zip vs) m x = _
    unfold bindC
    exact bindC_get (i := i) (List.nodup_cons.mp nd).2 (by simpa using h1) (by simpa using h2) hk

/-- the names' values at the entry -/
def start (N : List Str) (vs : List V) : St := vs.map some ++ List.replicate (N.length - vs.length) none

/-- the context of a def's body, at its entry; an exception leaves the frame, then lies as CX says -/
def cxOf (CX : CXT) (P : Program) (w : World) (K : PySem.W.Frag) (mg : Str → Option Value) (base : Heap) (N : List Str) (qual : Str) (scope : Scope) (f : Addr) (cd : Value) (A : Around) (outer : List Env) (s : Shared) (H : Hp) (E : XK) : Cx where
  prog := P
  w := w
  K := K
  mg := mg
  base := base
  A := A.deeper (envOfC qual scope s.heap.objs.size f cd)
  N := N
  s₀ := s
  H₀ := H
  env := envOfC qual scope s.heap.objs.size f cd
  outer := outer
  stack := envOfC qual scope s.heap.objs.size f cd :: outer
  ex := []
  calm := true
  fn := fun _ => true
  pn := []
  xe := fun e s' => wpAny (model P w) (A.deeper (envOfC qual scope s.heap.objs.size f cd)) (leaving (envOfC qual scope s.heap.objs.size f cd) e) (fun _ s'' => CX outer H s E e s'') (fun e' s'' => CX outer H s E e' s'') s'

theorem cell_has {sc : Scope} {n : Nat} {x : Str} (h : sc.names.lookup x = some .cell) : ∃ c, (cellsFrom n sc.names []).lookup x = some c := by
  have q := PySem.W.cellsFrom_some sc.names n [] (.inl h)
  exact Option.isSome_iff_exists.mp q

theorem inv_start {CX : CXT} {P : Program} {w : World} {K : PySem.W.Frag} {mg : Str → Option Value} {base : Heap} {N ps : List Str} {qual : Str} {scope : Scope} {f : Addr} {cd : Value} {A : Around} {outer : List Env} {s s1 : Shared} {H : Hp} {E : XK} {us : List Value} {vs : List V}
    (S : FnScope N ps scope) (hd : A.handled = none) (e0 : Env0 P w K mg base A outer s H) (hl : vs.length = ps.length) (r : Vals vs us)
    (x : InCallC s s.heap.objs.size (bindL (envOfC qual scope s.heap.objs.size f cd).kindOf (ps.zip us) fun _ => none) (cellsFrom (s.heap.objs.size + 1) scope.names []) (bindC (envOfC qual scope s.heap.objs.size f cd).kindOf (ps.zip us) fun _ => none) s1) :
    Inv (cxOf CX P w K mg base N qual scope f cd A outer s H E) [] (start N vs) H s1 := by
  have hpl : ps.length ≤ N.length := by have := congrArg List.length S.pre; rw [List.length_take] at this; omega
  obtain ⟨h1, tk, rfl, hk⟩ := x.done
  have noA : ∀ b : Addr, b ∉ (cxOf CX P w K mg base N qual scope f cd A outer s H E).ex := fun b z => absurd (show b ∈ ([] : List Addr) from z) (by simp)
  refine ⟨⟨e0.mod, S.kind, rfl, rfl, Nat.le_refl _, fun y z c h1 h2 => ?_, fun y hy => ?_, fun y c _ h => ?_, fun _ => hd, Around.frames_deeper e0.frames, .inr ⟨rfl, rfl⟩, fun b z => absurd z (noA b), e0.bs, e0.bsz, fun b _ _ => noA b, fun b z => absurd z (noA b), e0.funs, e0.frf⟩,
    rfl, e0.bare, Un.kept hk, ⟨_, x.toInCall.ns, fun i y v h1 h2 h3 => ?_⟩, fun y c h => ⟨_, x.cell y c h⟩, e0.hok.fresh (Nat.le_refl _), fun y c h => ?_, fun p hp => absurd (show p ∈ ([] : List (Addr × Obj)) from hp) (by simp), e0.hok.kept hk, ?_⟩
  · exact name_of_addr x.apart (PySem.mem_of_lookup h1) (PySem.mem_of_lookup h2)
  · have hy : scope.names.lookup y = some .cell ∨ scope.names.lookup y = some .free := hy
    rcases hy with hy | hy
    · exact cell_has hy
    · exact absurd rfl (S.nofree _ (PySem.mem_of_lookup hy))
  · exact Nat.le_of_lt (x.above y c (PySem.mem_of_lookup h))
  · have hi : i < vs.length := by
      unfold start at h2
      by_cases hi : i < vs.length
      · exact hi
      · rw [List.getElem?_append_right (by simpa using hi)] at h2
        rw [List.getElem?_replicate] at h2
        split at h2 <;> cases h2
    have ha : vs[i]? = some v := by
      unfold start at h2
      rw [List.getElem?_append_left (by simpa using hi), List.getElem?_map] at h2
      cases e : vs[i]? with
      | none => rw [e] at h2; cases h2
      | some a => rw [e] at h2; cases h2; rfl
    obtain ⟨u, hu, rv⟩ := r.get ha
    have hp : ps[i]? = some y := by
      rw [← S.pre, List.getElem?_take_of_lt (by omega)]; exact h1
    have ndP : ps.Nodup := by rw [← S.pre]; exact S.nd.sublist (List.take_sublist _ _)
    refine ⟨u, rv, ?_⟩
    rcases S.par y (List.mem_of_getElem? hp) with k | k
    · exact .inl ⟨k, bindL_get ndP hp hu k⟩
    · obtain ⟨c, e⟩ := cell_has (n := s.heap.objs.size + 1) k
      refine .inr ⟨.inl k, c, e, ?_⟩
      have q := x.cell y c e
      rw [bindC_get ndP hp hu (by show scope.names.lookup y ≠ _; rw [k]; decide)] at q
      exact q
  · exact e0.hok.fresh (Nat.le_of_lt (x.above y c (PySem.mem_of_lookup h)))
  · unfold start
    show _ = N.length
    rw [List.length_append, List.length_map, List.length_replicate]
    omega

/-- THE RULE: a def (or a method) of the text, by its body. The body's reading t is chosen for each entry; it is run at the parameters' values -/
theorem fn_of {CX : CXT} {P : Program} {w : World} {K : PySem.W.Frag} {mg : Str → Option Value} {base : Heap} {k : Nat} {f : Addr} {name qual : Str} {params : Arguments} {body : List Stmt} {scope : Scope} {dV kV doc pm cdv ct oc : Value} {an od : Option Addr}
    {osl : Array (Option Value)} {N ps : List Str} {sp : Sp} (lk : K.lookup f = some ⟨oc, od, .func (PySem.W.fnOf name qual params body scope dV kV doc pm an cdv ct), osl⟩) (hcd : PySem.W.codeIn K cdv qual = true) (S : FnScope N ps scope)
    (len : ∀ vs H Q E, sp vs H Q E → vs.length = ps.length)
    (hbody : ∀ (A : Around) (outer : List Env) (s : Shared) (H : Hp) (vs : List V) (Q : VK) (E : XK), Room k (A.deeper (envOfC qual scope s.heap.objs.size f cdv)) → sp vs H Q E →
      ∃ t, PSs (cxOf CX P w K mg base N qual scope f cdv A outer s H E) body t ∧ t { nx := fun _ H' => Q .non H', rt := Q } (start N vs) H) :
    FnOk P w K mg base CX (k + 1) f (PySem.W.fnOf name qual params body scope dV kV doc pm an cdv ct) ps sp := by
  refine ⟨len, fun A outer s H args us vs Q E hr e0 hb r hsp => ?_⟩
  have hl := len _ _ _ _ hsp
  have KX : K.In s.heap := e0.mod.kin.keeps fun b o e => (e0.bs b o e).1
  have lim : s.heap.NoLimit := e0.mod.nolimit.keeps fun b o e => (e0.bs b o e).1
  have hkind : ∀ y ∈ ps.zip us, scope.names.lookup y.1 = some .local ∨ (scope.names.lookup y.1 = some .cell ∧ ((cellsFrom (s.heap.objs.size + 1) scope.names []).lookup y.1).isSome = true) := fun ⟨n, v⟩ hy => by
    rcases S.par n (List.of_mem_zip hy).1 with q | q
    · exact .inl q
    · exact .inr ⟨q, PySem.W.cellsFrom_some _ _ _ (.inl q)⟩
  refine codeAny_call_function hr.depth (KX _ _ lk) rfl S.co S.gen rfl (PySem.W.codeRec_of KX hcd) (hb _ _ _ _ ?_)
  refine wpAny_newFunctionEnv_cells S.kind hkind fun env he s1 x => ?_
  subst he
  refine ⟨lim.keeps x.toInCall.keep, codeAny_func ?_⟩
  obtain ⟨t, ht, hq⟩ := hbody A outer s H vs Q E (hr.deeper _) hsp
  have I : Inv (cxOf CX P w K mg base N qual scope f cdv A outer s H E) [] (start N vs) H s1 := inv_start S hr.hd e0 hl r x
  refine wpAny_mono (ht [] s1 (start N vs) H _ I hq) (fun fl s' hs => ?_) fun e s' hs => hs
  have fin : ∀ {σ' : St} {H' : Hp} {v : V} {u : Value}, Inv (cxOf CX P w K mg base N qual scope f cdv A outer s H E) [] σ' H' s' → RelV v u → Q v H' → CE outer P w H s Q u s' :=
    fun {σ' H' v u} J rv q => ⟨v, H', J.os, J.bare, J.base, J.hok, rv, q⟩
  cases fl with
  | ret u =>
    obtain ⟨v, σ', H', J, rv, q⟩ := hs
    exact fin J rv q
  | next =>
    obtain ⟨σ', H', J, q⟩ := hs
    exact fin (v := V.non) (u := Value.none) J rfl q
  | brk =>
    obtain ⟨_, _, _, q⟩ := hs
    exact False.elim q
  | cont =>
    obtain ⟨_, _, _, q⟩ := hs
    exact False.elim q
end L2

namespace L2
open PySem PySem.Spec PyProof.Rows
section
variable {X : Cx} {x : Str} {p pos : Pos} {e : Expr} {es : List Expr} {t : TA} {id T : String} {r : List V → Hp → VK → Prop}

def tCB (r : List V → Hp → VK → Prop) (t : TA) : TE := fun σ H Q => t σ H fun vs H1 => r vs H1 Q
/-- f(e, ..), f a built-in function -/
theorem pe_callB (hc : CallR X (.builtin id) r) (hg : Gl X x) (hm : X.mg x = none) (hv : bootBuiltins x = some (.builtin id)) (ha : PA X (e :: es) t) (hn : x ≠ "__name__" := by decide) (hdb : (x == ("__debug__" : Str)) = false := by decide)
    (he : starEach (e :: es) X.env = (false, eval e X.env) :: starEach es X.env := by rfl) (hpl : (backTo pos (starEach es X.env)).any (·.1) = false := by rfl) : PE X (.Call (.Name x p) (e :: es) [] pos) (tCB r t) := by
  intro pins s σ H Q I h
  refine wpAny_Call_Name_kw (ld_blt I hg hm hv ?_ hn hdb)
  exact PyProof.Rows.callWith_builtin1 (thn (ha pos pins s σ H _ I h) fun us s1 ⟨vs, H1, I1, r1, q1⟩ => hc pins s1 σ H1 vs us Q I1 r1 q1) he hpl
/-- T(e, ..), T a built-in type -/
theorem pe_callTy (hc : CallR X (.type T) r) (hg : Gl X x) (hm : X.mg x = none) (hv : bootBuiltins x = some (.type T)) (ha : PA X (e :: es) t) (hn : x ≠ "__name__" := by decide) (hdb : (x == ("__debug__" : Str)) = false := by decide)
    (he : starEach (e :: es) X.env = (false, eval e X.env) :: starEach es X.env := by rfl) (hpl : (backTo pos (starEach es X.env)).any (·.1) = false := by rfl) : PE X (.Call (.Name x p) (e :: es) [] pos) (tCB r t) := by
  intro pins s σ H Q I h
  refine wpAny_Call_Name_kw (ld_blt I hg hm hv ?_ hn hdb)
  exact PyProof.Rows.callWith_type1 (thn (ha pos pins s σ H _ I h) fun us s1 ⟨vs, H1, I1, r1, q1⟩ => hc pins s1 σ H1 vs us Q I1 r1 q1) he hpl
end
end L2

namespace HT
open PySem PyProof.Rows

section
open PySem.SeqAt
open PySem.AutoSeq1 (wpAny_loadPart')
open PySem.MeetsSeq PySem.MeetsSeq2 PySem.MeetsSeq3

end

section
variable {prog : Program} {w : World} {A : Around} {E : Value → Shared → Prop} {s : Shared}

/-! ### t[a:b], not the whole -/
/-- a slice's bound as a place among n (d where it is left out) -/
def sIx (n d : Nat) : Option Int → Nat
  | none => d
  | some v => if v < 0 then (v + (n : Int)).toNat else min v.toNat n
theorem sIx_nat (n d k : Nat) : sIx n d (some (k : Int)) = min k n := by
  show (if (k : Int) < 0 then ((k : Int) + (n : Int)).toNat else min (k : Int).toNat n) = min k n
  rw [if_neg (by omega), Int.toNat_natCast]
theorem sIx_le (n d : Nat) (hd : d ≤ n) (o : Option Int) : sIx n d o ≤ n := by
  cases o with
  | none => exact hd
  | some v =>
    show (if v < 0 then (v + (n : Int)).toNat else min v.toNat n) ≤ n
    by_cases hv : v < 0
    · rw [if_pos hv]; omega
    · rw [if_neg hv]; exact Nat.min_le_right _ _
end
end HT

namespace L2
open PySem PySem.Spec PyProof.Rows

/-! ### the parts of a slice -/
abbrev TO := St → Hp → (Option Int → Hp → Prop) → Prop
/-- a slice's part (left out, or an int) -/
def PO (X : Cx) (e : Option Expr) (t : TO) : Prop :=
  ∀ (pins : List (Addr × Obj)) (s : Shared) (σ : St) (H : Hp) (Q : Option Int → Hp → Prop), Inv X pins σ H s → t σ H Q →
    wpAny (model X.prog X.w) X.A (evalPart e X.env) (fun u s' => ∃ o H', Inv X pins σ H' s' ∧ IsPart u o ∧ Q o H') X.xe s
def tNoPart : TO := fun _ H Q => Q none H
def tPart (t : TE) : TO := fun σ H Q => t σ H fun x H1 => ∃ i, x = .int i ∧ Q (some i) H1

section
variable {X : Cx} {e : Expr} {te : TE} {lo hi : Option Expr} {tl th : TO} {pos p2 : Pos}

theorem po_none : PO X none tNoPart := by
  intro pins s σ H Q I h
  rw [evalPart_none]
  exact wpAny_pure ⟨none, H, I, .none, h⟩
theorem po_some (h : PE X e te) : PO X (some e) (tPart te) := by
  intro pins s σ H Q I hw
  rw [evalPart_some]
  refine thn (h pins s σ H _ I hw) fun u s1 ⟨x, H1, I1, r1, q1⟩ => ?_
  obtain ⟨i, rfl, q⟩ := q1
  obtain ⟨t, rfl⟩ := r1
  exact ⟨some i, H1, I1, .int i t, q⟩

/-- what a slice of a value is, by values: the slice object stands at sl -/
def SlR (X : Cx) (r : V → Option Int → Option Int → Hp → VK → Prop) : Prop :=
  ∀ (pins : List (Addr × Obj)) (s : Shared) (σ : St) (H : Hp) (x : V) (v vl vu : Value) (lo hi : Option Int) (sl : Addr) (Q : VK), Inv X pins σ H s → RelV x v → s.heap.IsSliceOf sl vl vu .none → IsPart vl lo → IsPart vu hi → r x lo hi H Q →
    ∃ T id, typeLookup (.type T) "__getitem__" = pure (some (.builtin id)) ∧ s.TypeIs v T ∧ wpAny (model X.prog X.w) X.A (getItem v (.ref sl)) (EP X pins σ Q) X.xe s
theorem SlR.or {r r' : V → Option Int → Option Int → Hp → VK → Prop} (h : SlR X r) (h' : SlR X r') : SlR X (fun x lo hi H Q => r x lo hi H Q ∨ r' x lo hi H Q) := by
  intro pins s σ H x v vl vu lo hi sl Q I rx hs pl pu q
  rcases q with q | q
  · exact h pins s σ H x v vl vu lo hi sl Q I rx hs pl pu q
  · exact h' pins s σ H x v vl vu lo hi sl Q I rx hs pl pu q
def tSl (r : V → Option Int → Option Int → Hp → VK → Prop) (te : TE) (tl th : TO) : TE := fun σ H Q => te σ H fun x H1 => tl σ H1 fun l H2 => th σ H2 fun u H3 => r x l u H3 Q
/-- a[lo:hi], any a -/
theorem pe_slice {r : V → Option Int → Option Int → Hp → VK → Prop} (hr : SlR X r) (he : PE X e te) (hl : PO X lo tl) (hu : PO X hi th) : PE X (.Subscript e (.Slice lo hi none p2) pos) (tSl r te tl th) := by
  intro pins s σ H Q I h
  refine Subscript_ (thn (he pins s σ H _ I h) fun v s1 ⟨x, H1, I1, r1, q1⟩ => ?_)
  refine wpAny_Slice (thn (hl pins s1 σ H1 _ I1 q1) fun vl s2 ⟨l, H2, I2, pl, q2⟩ => thn (hu pins s2 σ H2 _ I2 q2) fun vu s3 ⟨u, H3, I3, pu, q3⟩ => ?_)
  rw [evalPart_none]
  refine wpAny_pure ?_
  have I4 : Inv X pins σ H3 { s3 with heap := s3.heap.push { cls := .type "slice", data := .fields #[vl, vu, .none] } } := I3.kept (t' := s3.toks) fun b ob q => Heap.get?_push_of_some _ q
  obtain ⟨T, id, hT, ht, hg⟩ := hr pins { s3 with heap := s3.heap.push { cls := .type "slice", data := .fields #[vl, vu, .none] } } σ H3 x v vl vu l u s3.heap.objs.size Q I4 r1 (Heap.IsSliceOf.new ..) pl pu q3
  show wpAny (model X.prog X.w) X.A (subscriptTail e (.Slice lo hi none p2) v (.ref s3.heap.objs.size)) (EP X pins σ Q) X.xe { s3 with heap := s3.heap.push { cls := .type "slice", data := .fields #[vl, vu, .none] } }
  exact tail_any (ops := [.ref s3.heap.objs.size, v]) ht hT hg (by with_unfolding_all rfl)

/-- the items of xs[lo:hi] -/
def cutV (xs : List V) (lo hi : Option Int) : List V := (xs.drop (HT.sIx xs.length 0 lo)).take (HT.sIx xs.length xs.length hi - HT.sIx xs.length 0 lo)
theorem cutV_length (xs : List V) (lo hi : Option Int) : (cutV xs lo hi).length ≤ xs.length := by
  unfold cutV
  rw [List.length_take, List.length_drop]
  omega
/-! ### t < u, t + u -/
end
end L2

namespace L2
open PySem PySem.Spec PyProof.Rows

/-! ### places -/
/-- the place that an index of any sign means -/
def ixN (n : Nat) (i : Int) : Option Nat := if 0 ≤ i then (if i < n then some i.toNat else none) else if -(n : Int) ≤ i then some (i + n).toNat else none
def atI {α : Type} (xs : List α) (i : Int) : Option α := (ixN xs.length i).bind fun j => xs[j]?
theorem ixN_seq {n : Nat} {i : Int} {j : Nat} (h : ixN n i = some j) : seqIndex? i n = some j ∧ j < n ∧ -(n : Int) ≤ i ∧ i < n := by
  unfold ixN at h
  by_cases h0 : 0 ≤ i
  · rw [if_pos h0] at h
    by_cases h1 : i < n
    · rw [if_pos h1] at h
      have e : i.toNat = j := Option.some.inj h
      exact ⟨by rw [seqIndex_of h0 h1, e], by omega, by omega, h1⟩
    · rw [if_neg h1] at h; cases h
  · rw [if_neg h0] at h
    by_cases h1 : -(n : Int) ≤ i
    · rw [if_pos h1] at h
      have e : (i + n).toNat = j := Option.some.inj h
      exact ⟨by rw [seqIndex_neg (by omega) h1, e], by omega, h1, by omega⟩
    · rw [if_neg h1] at h; cases h
theorem atI_get {α : Type} {xs : List α} {i : Int} {v : α} (h : atI xs i = some v) : ∃ j, seqIndex? i xs.length = some j ∧ xs[j]? = some v ∧ j < xs.length ∧ -(xs.length : Int) ≤ i ∧ i < xs.length := by
  unfold atI at h
  cases e : ixN xs.length i with
  | none => rw [e] at h; cases h
  | some j =>
    rw [e] at h
    obtain ⟨h1, h2, h3, h4⟩ := ixN_seq e
    exact ⟨j, h1, h, h2, h3, h4⟩
theorem atI_nat {α : Type} {xs : List α} {j : Nat} {v : α} (h : xs[j]? = some v) : atI xs (j : Int) = some v := by
  have hj : j < xs.length := (List.getElem?_eq_some_iff.mp h).1
  have e : ixN xs.length (j : Int) = some j := by
    unfold ixN
    rw [if_pos (by omega), if_pos (by omega)]; simp
  unfold atI; rw [e]; exact h
theorem atI_last {α : Type} (xs : List α) (v : α) : atI (xs ++ [v]) (-1) = some v := by
  have hl : (xs ++ [v]).length = xs.length + 1 := by simp
  have e : ixN (xs ++ [v]).length (-1) = some xs.length := by
    unfold ixN
    rw [hl, if_neg (by decide), if_pos (by omega)]
    congr 1
    omega
  unfold atI
  rw [e]
  show (xs ++ [v])[xs.length]? = some v
  simp

/-! ### what may be subscripted -/
/-- what stands as an index of a plain subscript -/
def PlainIx (b : Expr) : Prop := ∀ o i, subscripted b false o i = operate [o, i] (getItem o i)
/-- a subscript by values -/
def IxR (X : Cx) (r : R2) : Prop :=
  ∀ (value slice : Expr) (pins : List (Addr × Obj)) (s : Shared) (σ : St) (H : Hp) (x y : V) (v u : Value) (Q : VK), Inv X pins σ H s → RelV x v → RelV y u → r x y H Q →
    subscripted slice false v u = operate [v, u] (getItem v u) → wpAny (model X.prog X.w) X.A (subscriptTail value slice v u) (EP X pins σ Q) X.xe s
/-- a call of a builtin's method by values: the receiver, the arguments -/
def MtR (X : Cx) (id : String) (r : V → List V → Hp → VK → Prop) : Prop :=
  ∀ (pins : List (Addr × Obj)) (s : Shared) (σ : St) (H : Hp) (x : V) (xs : List V) (v : Value) (us : List Value) (Q : VK), Inv X pins σ H s → RelV x v → Vals xs us → r x xs H Q →
    wpAny (model X.prog X.w) X.A (call (.builtin id) (v :: us)) (EP X pins σ Q) X.xe s
section
variable {X : Cx} {a b : Expr} {ta tb : TE} {pos : Pos}
theorem IxR.or {r r' : R2} (h : IxR X r) (h' : IxR X r') : IxR X (fun x y H Q => r x y H Q ∨ r' x y H Q) := by
  intro value slice pins s σ H x y v u Q I rx ry q hs
  rcases q with q | q
  · exact h value slice pins s σ H x y v u Q I rx ry q hs
  · exact h' value slice pins s σ H x y v u Q I rx ry q hs
theorem MtR.or {id : String} {r r' : V → List V → Hp → VK → Prop} (h : MtR X id r) (h' : MtR X id r') : MtR X id (fun x xs H Q => r x xs H Q ∨ r' x xs H Q) := by
  intro pins s σ H x xs v us Q I rx rs q
  rcases q with q | q
  · exact h pins s σ H x xs v us Q I rx rs q
  · exact h' pins s σ H x xs v us Q I rx rs q
/-- a[b] -/
theorem pe_ix {r : R2} (hr : IxR X r) (ha : PE X a ta) (hb : PE X b tb) (hs : PlainIx b) : PE X (.Subscript a b pos) (tOp r ta tb) := by
  intro pins s σ H Q I h
  exact Subscript_ (binT ha hb I h fun v u s2 x y H2 I2 rx ry q => hr a b pins s2 σ H2 x y v u Q I2 rx ry q (hs _ _))

def rIxL (K : PySem.W.Frag) : R2 := fun x y H Q => ∃ p xs i v, x = .ref p ∧ y = .int i ∧ SqL K H p xs ∧ atI xs i = some v ∧ Q v H
def rIxS : R2 := fun x y H Q => ∃ z i c, x = .str z ∧ y = .int i ∧ z.length ≤ sizeLine ∧ atI z.cps.toList i = some c ∧ Q (.str ⟨#[c]⟩) H
theorem ix_list : IxR X (rIxL X.K) := by
  intro value slice pins s σ H x y v u Q I rx ry h hs
  obtain ⟨p, xs, i, z, rfl, rfl, hq, he, q⟩ := h
  cases rx
  obtain ⟨t, rfl⟩ := ry
  obtain ⟨its, r, pl, hz⟩ := I.list hq
  obtain ⟨j, h1, h2, h3, h4, h5⟩ := atI_get he
  obtain ⟨w, ew, rw'⟩ := r.get h2
  have hl := r.length
  have hn := line63
  have fin : EP X pins σ Q w s := ⟨z, H, I, rw', q⟩
  by_cases h0 : 0 ≤ i
  · have hj : i.toNat = j := by
      rw [seqIndex_of h0 h5] at h1
      exact Option.some.inj h1
    exact item_listR pl.isList h0 (by omega) (by rw [hj]; simpa using ew) fin hs
  · have hj : (i + (its.toArray.size : Int)).toNat = j := by
      rw [seqIndex_neg (by omega) h4] at h1
      rw [List.size_toArray, ← hl]
      exact Option.some.inj h1
    exact subscriptTail_builtinR (x := w) pl.isList.typeIs slot_list_getitem.lookup
      (wpAny_getItem_list_neg (Q := fun r s' => r = w ∧ EP X pins σ Q r s') pl.isList (by omega) (by rw [List.size_toArray] <;> omega) (by omega) (by rw [hj]; simpa using ew) ⟨rfl, fin⟩) hs
theorem ix_str : IxR X rIxS := by
  intro value slice pins s σ H x y v u Q I rx ry h hs
  obtain ⟨z, i, c, rfl, rfl, hz, he, q⟩ := h
  obtain ⟨t, rfl⟩ := rx
  obtain ⟨t', rfl⟩ := ry
  obtain ⟨j, h1, h2, h3, h4, h5⟩ := atI_get he
  have hl : z.cps.toList.length = z.length := by simp [Str.length]
  rw [hl] at h1 h4 h5
  have hn := line63
  exact tail_any (typeIs_str s z t) slot_str_getitem.lookup (getItem_str (c := c) (by
    have e1 : decide (i < -(2 ^ 63 : Int)) = false := decide_eq_false (by omega)
    have e2 : decide (i ≥ 2 ^ 63) = false := decide_eq_false (by omega)
    rw [e1, e2, Bool.or_false]) (by rw [h1]; simpa using h2) ⟨.str ⟨#[c]⟩, H, I.tok _, ⟨_, rfl⟩, q⟩) hs
/-! ### xs[i] = v, any sign -/
theorem Inv.lst {pins : List (Addr × Obj)} {σ : St} {H : Hp} {s : Shared} {p : Addr} {xs : List V} (I : Inv X pins σ H s) (h : H p = some (.lst xs)) :
    ∃ (its : List Value) (n : Nat), Vals xs its ∧ s.heap.get? p = some { cls := .type "list", data := .seq its.toArray n } ∧ xs.length ≤ sizeLine := by
  obtain ⟨z, its, n, r, e⟩ := I.hok p _ h
  exact ⟨its, n, r, e, z⟩
/-! ### slices -/
theorem slice_bounds (lo hi : Option Int) (n : Nat) : (sliceBounds lo hi none n).1 = ((HT.sIx n 0 lo : Nat) : Int) ∧ (sliceBounds lo hi none n).2.1 = ((HT.sIx n n hi : Nat) : Int) ∧ (sliceBounds lo hi none n).2.2 = 1 := by
  refine ⟨?_, ?_, rfl⟩
  · cases lo with
    | none => simp [sliceBounds, HT.sIx]
    | some i =>
      simp only [sliceBounds, HT.sIx, Option.getD_none, show (1 : Int) > 0 by decide, if_true]
      by_cases h : i < 0
      · simp only [h, if_true] <;> omega
      · simp only [h, if_false] <;> omega
  · cases hi with
    | none => simp [sliceBounds, HT.sIx]
    | some i =>
      simp only [sliceBounds, HT.sIx, Option.getD_none, show (1 : Int) > 0 by decide, if_true]
      by_cases h : i < 0
      · simp only [h, if_true] <;> omega
      · simp only [h, if_false] <;> omega
theorem slicePick_cut (its : List Value) (lo hi : Option Int) : slicePick its.toArray lo hi none = ((its.drop (HT.sIx its.length 0 lo)).take (HT.sIx its.length its.length hi - HT.sIx its.length 0 lo)).toArray := by
  obtain ⟨h1, h2, h3⟩ := slice_bounds lo hi its.toArray.size
  unfold slicePick
  rw [h1, h2, h3]
  simp only [sliceRange_one, pick_run, List.size_toArray] <;> rfl
/-- xs[lo:hi] of a list: a new list -/
def rSlL (K : PySem.W.Frag) : V → Option Int → Option Int → Hp → VK → Prop := fun x lo hi H Q => ∃ a xs, x = .ref a ∧ SqL K H a xs ∧ ∀ p, H p = none → Q (.ref p) (upd H p (.lst (cutV xs lo hi)))
theorem sl_list : SlR X (rSlL X.K) := by
  intro pins s σ H x v vl vu lo hi sl Q I rx hs pl pu h
  obtain ⟨a, xs, rfl, hx, q⟩ := h
  cases rx
  obtain ⟨its, r, ht, hz⟩ := I.list hx
  have hlen := r.length
  refine ⟨"list", _, slot_list_getitem.lookup, ht.isList.typeIs, ?_⟩
  refine wpAny_getItem_list_slice ht.isList hs pl pu .none (by simp) ?_ (by rw [List.size_toArray] <;> omega)
  rw [slicePick_cut, ← hlen]
  refine ⟨.ref s.heap.objs.size, _, I.laid (t' := s.toks) (o := .lst (cutV xs lo hi)) (fun b ob q => Heap.get?_push_of_some _ q) (Nat.le_refl _) ?_, rfl, q _ (I.hok.fresh (Nat.le_refl _))⟩
  exact ⟨Nat.le_trans (cutV_length xs lo hi) hz, _, 0, (r.drop (HT.sIx xs.length 0 lo)).take (HT.sIx xs.length xs.length hi - HT.sIx xs.length 0 lo), Heap.get?_push_size _ rfl⟩

/-! ### in, not in: flat items -/
/-! ### len, list(x), tuple(x) of any list or tuple that is read -/
theorem call_len_seq : CallR X (.builtin "len") (fun xs H Q => ∃ p ys, xs = [.ref p] ∧ (SqL X.K H p ys ∨ SqT X.K H p ys) ∧ Q (.int ys.length) H) := by
  intro pins s σ H xs us Q I r h
  obtain ⟨p, ys, rfl, hq, q⟩ := h
  obtain ⟨u, rfl, rx⟩ := vals1 r
  cases rx
  have hn := line63
  rcases hq with hq | hq
  · obtain ⟨its, r', pl, hz⟩ := I.list hq
    have hlen := r'.length
    exact Calls.call_len_list pl.isList (by simp only [List.size_toArray] <;> omega) ⟨.int ys.length, H, I.tok _, ⟨s.toks + 1, by rw [List.size_toArray, hlen]⟩, q⟩
  · obtain ⟨its, r', pl, hz⟩ := I.tuple hq
    have hlen := r'.length
    exact len_tuple pl (by simp only [List.size_toArray] <;> omega) ⟨.int ys.length, H, I.tok _, ⟨s.toks + 1, by rw [List.size_toArray, hlen]⟩, q⟩
theorem call_len_str : CallR X (.builtin "len") (fun xs H Q => ∃ z, xs = [.str z] ∧ z.length ≤ sizeLine ∧ Q (.int z.length) H) := by
  intro pins s σ H xs us Q I r h
  obtain ⟨z, rfl, hz, q⟩ := h
  obtain ⟨u, rfl, t, rfl⟩ := vals1 r
  have hn := line63
  exact len_str (by omega) ⟨.int z.length, H, I.tok _, ⟨_, rfl⟩, q⟩
theorem CallR.or {f : Value} {r r' : List V → Hp → VK → Prop} (h : CallR X f r) (h' : CallR X f r') : CallR X f (fun xs H Q => r xs H Q ∨ r' xs H Q) := by
  intro pins s σ H xs us Q I rs q
  rcases q with q | q
  · exact h pins s σ H xs us Q I rs q
  · exact h' pins s σ H xs us Q I rs q
/-! ### the call of a builtin's method: o.m(..) -/
/-- the value is of that builtin type -/
def tyV (K : PySem.W.Frag) (T : String) (x : V) (H : Hp) : Prop := match x with
  | .str _ => T = "str"
  | .int _ => T = "int"
  | .ref p => (T = "list" ∧ ∃ xs, SqL K H p xs) ∨ (T = "tuple" ∧ ∃ o, K.lookup p = some o ∧ o.cls = .type "tuple" ∧ o.dict = none) ∨
      (T = "dict" ∧ ((∃ kvs, H p = some (.dK kvs)) ∨ ∃ kvs, H p = some (.dT kvs))) ∨ (T = "set" ∧ ∃ S n, H p = some (.set S n))
  | _ => False
theorem tyV_is {pins : List (Addr × Obj)} {σ : St} {H : Hp} {s : Shared} {T : String} {x : V} {v : Value} (I : Inv X pins σ H s) (r : RelV x v) (ty : tyV X.K T x H) :
    s.TypeIs v T ∧ ∀ a, v = .ref a → ∃ ob, s.heap.get? a = some ob ∧ ob.dict = none := by
  cases x with
  | str z =>
    obtain ⟨t, rfl⟩ := r
    cases (show T = "str" from ty)
    exact ⟨typeIs_str s z t, fun _ e => nomatch e⟩
  | int i =>
    obtain ⟨t, rfl⟩ := r
    cases (show T = "int" from ty)
    exact ⟨typeIs_int s i t, fun _ e => nomatch e⟩
  | ref p =>
    cases r
    rcases ty with ⟨rfl, xs, hq⟩ | ⟨rfl, o, hk, hc, hd⟩ | ⟨rfl, hk⟩ | ⟨rfl, S, n, hk⟩
    · obtain ⟨its, _, pl, _⟩ := I.list hq
      refine ⟨pl.isList.typeIs, fun a e => ?_⟩
      cases e
      obtain ⟨o, n, e, c, hd, _⟩ := pl
      exact ⟨o, e, hd⟩
    · refine ⟨⟨o, I.kIn p o hk, hc⟩, fun a e => ?_⟩
      cases e
      exact ⟨o, I.kIn _ o hk, hd⟩
    · have z : ∃ o, s.heap.get? p = some o ∧ o.ExactDict := by
        rcases hk with ⟨kvs, hk⟩ | ⟨kvs, hk⟩
        · obtain ⟨_, _, _, _, o, _, _, e, ex, _⟩ := I.hok p _ hk
          exact ⟨o, e, ex⟩
        · obtain ⟨_, _, _, _, o, _, _, e, ex, _⟩ := I.hok p _ hk
          exact ⟨o, e, ex⟩
      obtain ⟨o, e, ex⟩ := z
      refine ⟨⟨o, e, ex.1⟩, fun a e2 => ?_⟩
      cases e2
      exact ⟨o, e, ex.2.1⟩
    · obtain ⟨o, _, _, _, e, ex, _⟩ := I.hok p _ hk
      refine ⟨⟨o, e, ex.1⟩, fun a e2 => ?_⟩
      cases e2
      exact ⟨o, e, ex.2.1⟩
  | _ => exact False.elim ty
def tBM0 (K : PySem.W.Frag) (T : String) (r : V → List V → Hp → VK → Prop) (to : TE) : TE := fun σ H Q => to σ H fun x H1 => tyV K T x H1 ∧ r x [] H1 Q
def tBM (K : PySem.W.Frag) (T : String) (r : V → List V → Hp → VK → Prop) (to : TE) (t : TA) : TE := fun σ H Q => to σ H fun x H1 => tyV K T x H1 ∧ t σ H1 fun xs H2 => r x xs H2 Q
variable {o e : Expr} {es : List Expr} {to : TE} {t : TA} {name : Str} {apos cpos : Pos} {T id : String} {r : V → List V → Hp → VK → Prop}
theorem pe_bm0 (pa : PlainAttrs T) (slot : Slot T name id) (hty : typeOf (.builtin id) = pure (.type "method_descriptor")) (hm : MtR X id r) (ho : PE X o to)
    (hbase : attributeBase o name X.env (eval o X.env) = eval o X.env := by rfl) (hline : (apos.endLine == cpos.line) = true := by rfl) : PE X (.Call (.Attribute o name apos) [] [] cpos) (tBM0 X.K T r to) := by
  intro pins s σ H Q I h
  refine wpAny_Call_method0_late hbase hline (thn (ho pins s σ H _ I h) fun v s1 ⟨x, H1, I1, r1, ty, q1⟩ => ?_)
  obtain ⟨h1, h2⟩ := tyV_is I1 r1 ty
  exact ⟨T, id, pa, slot, hty, h1, h2, Calls.callWith_builtin rfl (PySem.evalArgs_none (hm pins s1 σ H1 x [] v [] Q I1 r1 .nil q1))⟩
theorem pe_bm (pa : PlainAttrs T) (slot : Slot T name id) (hty : typeOf (.builtin id) = pure (.type "method_descriptor")) (hm : MtR X id r) (ho : PE X o to) (ha : PA X (e :: es) t)
    (hbase : attributeBase o name X.env (eval o X.env) = eval o X.env := by rfl)
    (hfew : ((backTo cpos (starEach (e :: es) X.env)).all (fun x => !x.1) && (backToKw cpos (keywordEach [] X.env)).all (fun x => x.1.isSome)
      && decide ((e :: es).length + ([] : List Keyword).length + (if ([] : List Keyword).isEmpty then 0 else 1) < 30)) = true := by rfl)
    (hline : (apos.endLine == cpos.line) = true := by rfl) (hs : starEach (e :: es) X.env = (false, eval e X.env) :: starEach es X.env := by rfl) (hplain : (backTo cpos (starEach es X.env)).any (·.1) = false := by rfl) :
    PE X (.Call (.Attribute o name apos) (e :: es) [] cpos) (tBM X.K T r to t) := by
  intro pins s σ H Q I h
  refine wpAny_Call_method_late hbase hfew hline rfl (thn (ho pins s σ H _ I h) fun v s1 ⟨x, H1, I1, r1, ty, q1⟩ => ?_)
  obtain ⟨h1, h2⟩ := tyV_is I1 r1 ty
  refine ⟨T, id, pa, slot, hty, h1, h2, ?_⟩
  have hA := ha cpos pins s1 σ H1 _ I1 q1
  rw [hs] at hA ⊢
  refine Calls.callWith_builtin (by show (false || (backTo cpos (starEach es X.env)).any (·.1)) = false; rw [hplain] <;> rfl) (Calls.evalArgs_plain ?_)
  exact thn hA fun us s2 ⟨vs, H2, I2, r2, q2⟩ => hm pins s2 σ H2 x vs v us Q I2 r1 r2 q2
/- xs.append(e), list.index on a module's tuple .. are MtR facts of 06m -/
end
end L2

namespace L2
open PySem PySem.Spec PyProof.Rows

def MtM (X : Cx) (id : String) (r : V → List V → Hp → VK → Prop) : Prop :=
  ∀ (pins : List (Addr × Obj)) (s : Shared) (σ : St) (H : Hp) (x : V) (xs : List V) (v : Value) (us : List Value) (Q : VK), Inv X pins σ H s → RelV x v → Vals xs us → r x xs H Q →
    wpAny (model X.prog X.w) X.A (call (.builtin id) (v :: us)) (EP X pins σ Q) X.xe s

/-! ### lists of values -/
theorem Vals.one : ∀ {x : V} {us : List Value}, Vals [x] us → ∃ u, us = [u] ∧ RelV x u
  | _, _, .cons r .nil => ⟨_, rfl, r⟩
theorem Vals.two : ∀ {x y : V} {us : List Value}, Vals [x, y] us → ∃ u v, us = [u, v] ∧ RelV x u ∧ RelV y v
  | _, _, _, .cons r (.cons q .nil) => ⟨_, _, rfl, r, q⟩
theorem Vals.zero : ∀ {us : List Value}, Vals [] us → us = []
  | _, .nil => rfl
theorem Vals.dropLast {xs : List V} {us : List Value} (h : Vals xs us) : Vals xs.dropLast us.dropLast := by
  induction h with
  | nil => exact .nil
  | cons r t ih =>
    cases t with
    | nil => exact .nil
    | cons q t' => exact .cons r ih
theorem Vals.eraseIdx : ∀ {xs : List V} {us : List Value} (i : Nat), Vals xs us → Vals (xs.eraseIdx i) (us.eraseIdx i)
  | _, _, _, .nil => .nil
  | _, _, 0, .cons _ t => t
  | _, _, i + 1, .cons r t => .cons r (Vals.eraseIdx i t)
theorem Vals.reverse {xs : List V} {us : List Value} (h : Vals xs us) : Vals xs.reverse us.reverse := by
  induction h with
  | nil => exact .nil
  | cons r t ih => rw [List.reverse_cons, List.reverse_cons]; exact Vals.append ih (.cons r .nil)
section
variable {X : Cx} {pins : List (Addr × Obj)} {σ : St} {H : Hp} {s : Shared} {l b : Addr} {xs ys zs : List V}

/-! ### the two steps: a tracked list is rewritten, a new list is laid -/
theorem Inv.lset {its its' : List Value} {n : Nat} {f : Array Value → Array Value} {t' : Nat} (I : Inv X pins σ H s) (hH : H l = some (.lst xs))
    (e : s.heap.get? l = some { cls := .type "list", data := .seq its.toArray n }) (hf : f its.toArray = its'.toArray) (hv : Vals ys its') (hz : ys.length ≤ sizeLine) :
    Inv X pins σ (upd H l (.lst ys)) { s with heap := s.heap.update l (Obj.mapSeq f), toks := t' } := by
  have q := PySem.IsL.update e f
  rw [hf] at q
  refine I.write (x := l) (e := l) (by rw [hH]; exact trivial) (.inl rfl) (fun b' u hb hu => (Heap.get?_update_other s.heap (Obj.mapSeq f) (Ne.symm hb)).trans hu) ⟨_, q⟩ ?_
  exact ⟨hz, its', _, hv, q⟩
theorem Inv.lnew {its : List Value} {t' : Nat} (I : Inv X pins σ H s) (hv : Vals ys its) (hz : ys.length ≤ sizeLine) :
    Inv X pins σ (upd H s.heap.objs.size (.lst ys)) { s with heap := s.heap.push { cls := .type "list", data := .seq its.toArray }, toks := t' } :=
  I.laid (fun _ _ q => Heap.get?_push_of_some _ q) (Nat.le_refl _) ⟨hz, its, 0, hv, Heap.get?_push_size _ rfl⟩
theorem Inv.fresh (I : Inv X pins σ H s) : H s.heap.objs.size = none := I.hok.fresh (Nat.le_refl _)
theorem Inv.lstM (I : Inv X pins σ H s) (hH : H l = some (.lst xs)) : xs.length ≤ sizeLine ∧ ∃ (its : List Value) (n : Nat), Vals xs its ∧ xs.length = its.length ∧ s.heap.get? l = some { cls := .type "list", data := .seq its.toArray n } := by
  obtain ⟨z, its, n, r, e⟩ := I.hok l _ hH
  exact ⟨z, its, n, r, r.length, e⟩

end

section
variable {X : Cx}

/-! ### methods -/
def rAppend : V → List V → Hp → VK → Prop := fun x vs H Q => ∃ l xs y, x = .ref l ∧ vs = [y] ∧ H l = some (.lst xs) ∧ xs.length < sizeLine ∧ Q .non (upd H l (.lst (xs ++ [y])))
theorem mt_append : MtM X "list.append" rAppend := by
  intro pins s σ H x vs v us Q I rx rv h
  obtain ⟨l, xs, y, rfl, rfl, hH, hz, q⟩ := h
  cases rx
  obtain ⟨u, rfl, ru⟩ := rv.one
  obtain ⟨z, its, n, r, hl, e⟩ := I.lstM hH
  refine call_meets F.slot_list_append ⟨_, e, rfl⟩ F.entry_list_append (F.args_list_append_2 _ _) (PySem.list_append l its.toArray n u (by rw [List.size_toArray]; omega)) ⟨e, ?_⟩
  refine ⟨.non, _, I.lset (its' := its ++ [u]) hH e (by simp) (r.append (.cons ru .nil)) ?_, rfl, q⟩
  rw [List.length_append, List.length_singleton]
  omega

/-! ### list + list, list += list, list * int -/
/-! ### del xs[i] -/
end

/-! ### xs[a:b] = ys -/
section
variable {prog : Program} {w : World} {A : Around} {E : Value → Shared → Prop} {s : Shared}
end

section
variable {X : Cx}
end
end L2

namespace Att
open PySem PySem.W PySem.Calls PyProof.Rows

/-! ### the script -/
theorem ints_of_wellAll {P : Params} {h : Heap} : ∀ (ns : List Int) (vs : List Value), WellAll P h vs (ns.map WData.int) → IntsAre vs ns := by
  intro ns
  induction ns with
  | nil =>
    intro vs w
    rw [List.map_nil] at w
    cases w
    exact .nil
  | cons n ns ih =>
    intro vs w
    rw [List.map_cons] at w
    cases w with
    | cons a b =>
      cases a
      exact .cons _ _ (ih _ b)

theorem script_of {l : OpenLaw} {n : Nat} (hn : l.most = some n) {P : Params} {h : Heap} {args : List WData} {vals : List Value}
    (hpre : l.row.toRowW.claim.pre args = true) (hwl : WellAll P h vals args) :
    ∃ a vs ns, vals = [Value.ref a] ∧ args = [WData.list (ns.map WData.int)] ∧ h.get? a = some { cls := .type "list", data := .seq vs.toArray } ∧ IntsAre vs ns ∧ ns.length ≤ n := by
  have hsh : WShape.hasAll [] args [.list .int] = true := (pre_splitW hpre).1
  have hc : l.pre.holds [] { args := args } = true := (pre_splitW hpre).2
  obtain ⟨d, r, rfl, h1, h2⟩ := hasAllW_cons hsh
  obtain rfl := hasAllW_nil h2
  obtain ⟨xs, rfl, h3⟩ := hasW_list h1
  obtain ⟨ns, rfl⟩ := items_int h3
  have hlen : ns.length ≤ n := by
    unfold OpenLaw.pre at hc
    have h4 : (WTm.not (.lt (.lit (.int (n : Int))) (.len (.arg 0)))).holds [] { args := [.list (ns.map .int)] } = true := by
      have h4 := (holds_andW hc).1
      rw [hn] at h4
      exact h4
    have h5 := condW_of h4 (w_not (w_lt w_lit (w_len_list (w_arg rfl))))
    rw [List.length_map] at h5
    refine Nat.le_of_not_lt fun q => ?_
    have q' : (n : Int) < ((ns.length : Nat) : Int) := by omega
    first
      | (rw [decide_eq_true q'] at h5; exact absurd h5 (by decide))
      | (simp at h5; omega)
  cases hwl with
  | cons w1 w2 =>
    cases w2
    cases w1 with
    | list ho hall => exact ⟨_, _, ns, rfl, rfl, ho, ints_of_wellAll ns _ hall, hlen⟩

theorem post_true (l : OpenLaw) (args : List WData) : l.row.toRowW.claim.post args (.bool true) args = true :=
  postW_of (r := l.row.toRowW) (X := (true == true))
    (show WShape.has [] (.bool true) .bool = true by first | rfl | decide | simp [WShape.has, WShape.arms, WShape.armsAll])
    (show (WTm.eq .res (.lit (.bool true))).value [] { args := args, res := some (.bool true), after := args } = some (.bool (true == true)) from w_eq_bool (w_res rfl) w_lit) rfl

/-! ### the attachment: holds_open's last premise (the goal 'hc' behind k_head) from a wpAny of the law's body -/
/-- the same from a codeAny of the CALL (for a layer whose function contracts speak of calls) -/
theorem attach_call {l : OpenLaw} {n : Nat} {q : Program} {loose : List Str} {XP : (Str → Option Value) → Heap → Prop} {YP : World → Heap → Prop} {d : DefRec}
    (hn : l.most = some n) (hdf : d.params.defaults = [])
    (call : ∀ (w : World) (s₀ s₁ : Shared) (mg mb : Str → Option Value) (fa : Addr) (o : Obj) (pm cd doc : Value) (a : Addr) (vs : List Value) (ns : List Int),
      Ground q loose [] XP w s₀ mg mb s₁.heap → YP w s₁.heap →
      s₁.heap.get? fa = some o → o.data = .func (docDef d.name d.params d.body d.scope pm cd doc) → s₁.heap.CodeRec cd d.name → mg d.name = some (.ref fa) →
      s₁.heap.get? a = some { cls := .type "list", data := .seq vs.toArray } → IntsAre vs ns → ns.length ≤ n → s₁.gens = #[] →
      codeAny (model l.prog w) callerA (.call (.ref fa) ⟨[.ref a], []⟩) (fun r s' => r = .ok (.ret (.bool true)) ∧ OldK s₁.heap s'.heap ∧ s'.os = s₁.os ∧ AllBare s'.gens) s₁) :
    WalkO q loose XP YP l.row.toRowW d [] (fun f vs => PySem.call f vs) := by
  intro w s₀ s₁ mg mb G Y fa o pm cd doc dV kV ho hd hcd hD hmg hg args vals as hpre hlay hrd hwl hlo
  obtain rfl : dV = .none := Dflts.none hD hdf
  obtain rfl : kV = .none := Dflts.noKw hD
  obtain ⟨a, vs, ns, rfl, rfl, hobj, hints, hlen⟩ := script_of hn hpre hwl
  refine enter_call (codeAny_mono (call w s₀ s₁ mg mb fa o pm cd doc a vs ns G Y ho (fd_plain hd) hcd hmg hobj hints hlen hg) fun r s' hq => ?_)
  obtain ⟨rfl, h2, h3, h4⟩ := hq
  exact ⟨.inl ⟨.bool true, .bool true, [], rfl, fun _ => rfl, .bool true, post_true l _, fun _ => ⟨List.Pairwise.nil, fun _ hm => (nomatch hm)⟩⟩, h2, h3, h4⟩

/-! ### rules over ANY heap (no ledger) from facts about the written part K: the library's own take a ledger (News) for what they write -/
section
variable {prog : Program} {w : World} {A : Around} {E : Value → Shared → Prop} {s : Shared} {K : Frag}

/-! the whole heap as the ledger: makes every rule that writes through a ledger a rule over any heap -/
def ledger (h : Heap) (L d : Addr) : List (Addr × Obj) := (List.range h.objs.size).filterMap fun a => if a = L ∨ a = d then none else (h.get? a).map fun o => (a, o)
end
end Att

namespace L2
open PySem PySem.Spec PyProof.Rows

theorem vals_ints : ∀ {vs : List Value} {ns : List Int}, IntsAre vs ns → Vals (ns.map V.int) vs
  | _, _, .nil => .nil
  | _, _, .cons n t h => .cons ⟨t, rfl⟩ (vals_ints h)

/-- nothing is tracked but the script, known to the object (or it is an object of the module) -/
def Only (H : Hp) : Prop := ∀ b, H b = none ∨ ∃ o xs, H b = some (.frz o (.lst xs))

/-- THE HEAD: the law's promise, at the heap behind the top. F, the promise of the law's def, may use that base is part of the heap (so K.In base, base.Ns mainGlobals mg stand in Mod) -/
theorem law_call {P : Program} {w : World} {K : PySem.W.Frag} {mg mb : Str → Option Value} {CX : CXT} {k : Nat} {fa a : Addr} {fd : FuncData} {x : Str} {sp : Sp} {s₁ : Shared} {vs : List Value} {ns : List Int}
    (KX : K.In s₁.heap) (hns : s₁.heap.Ns mainGlobals mg) (hb : s₁.heap.Ns builtinsNs mb) (hbb : ∀ x : Str, x ≠ "__name__" → mb x = bootBuiltins x) (hlim : s₁.heap.NoLimit) (hg : s₁.gens = #[])
    (ha : s₁.heap.get? a = some { cls := .type "list", data := .seq vs.toArray }) (hi : IntsAre vs ns) (hl : ns.length ≤ sizeLine) (hr : Room k callerA)
    (F : ∀ base : Heap, K.In base → base.Ns mainGlobals mg → FnOk P w K mg base CX k fa fd [x] sp) (hbind : ∀ (s : Shared) (u : Value), BindsTo s fd ⟨[u], []⟩ [(x, u)])
    (hsp : ∀ H : Hp, Only H → SqL K H a (ns.map V.int) → sp [.ref a] H (fun v _ => v = .bl true) fun _ _ _ => False)
    (hCX : ∀ H e s', CX [] H s₁ (fun _ _ _ => False) e s' → False) :
    codeAny (model P w) callerA (.call (.ref fa) ⟨[.ref a], []⟩) (fun r s' => r = .ok (.ret (.bool true)) ∧ OldK s₁.heap s'.heap ∧ s'.os = s₁.os ∧ AllBare s'.gens) s₁ := by
  have rv := vals_ints hi
  have lenV := hi.length
  -- from an abstract heap in which nothing but the script may be tracked
  have core : ∀ H : Hp, Only H → SqL K H a (ns.map V.int) → HOk P w H s₁.heap → (∀ b, H b ≠ none → b = a) → (H a ≠ none → K.lookup a = none) →
      codeAny (model P w) callerA (.call (.ref fa) ⟨[.ref a], []⟩) (fun r s' => r = .ok (.ret (.bool true)) ∧ OldK s₁.heap s'.heap ∧ s'.os = s₁.os ∧ AllBare s'.gens) s₁ := by
    intro H hO hS hok hA hK
    have base_of : ∀ {b : Addr} {o : Obj}, s₁.heap.get? b = some o → H b = none → (hidT s₁.heap H).get? b = some o := fun e n => hidT_get e n
    have noA : ∀ {b : Addr} {o : Obj} {es : Array DictEntry} {ep : Nat}, s₁.heap.get? b = some o → o.data = .dict es ep → H b = none := fun {b o es ep} e d => by
      cases q : H b with
      | none => rfl
      | some u =>
        have e' : b = a := hA b (by rw [q]; simp)
        subst e'
        rw [ha] at e; cases e
        have d' : Data.seq vs.toArray _ = Data.dict es ep := d
        cases d'
    have nsK : ∀ {b : Addr} {m : Str → Option Value}, s₁.heap.Ns b m → (hidT s₁.heap H).Ns b m := fun {b m} ⟨o, es, ep, e, d, r⟩ => ⟨o, es, ep, base_of e (noA e d), d, r⟩
    have hKb : K.In (hidT s₁.heap H) := fun b o e => base_of (KX b o e) (by
      cases q : H b with
      | none => rfl
      | some u =>
        have e' : b = a := hA b (by rw [q]; simp)
        subst e'
        rw [hK (by rw [q]; simp)] at e; cases e)
    have hM : Mod K mg (hidT s₁.heap H) := ⟨hKb, nsK hns, ⟨mb, nsK hb, hbb⟩, let ⟨mc, h1, h2⟩ := hlim; ⟨mc, nsK h1, h2⟩⟩
    have e0 : Env0 P w K mg (hidT s₁.heap H) callerA [] s₁ H := ⟨rfl, hM, fun b o e => of_hidT e, Nat.le_of_eq (hidT_size _ _), trivial, fun b hb => absurd (show b ∈ ([] : List Addr) from hb) (by simp), hok, .of_eq hg⟩
    refine codeAny_mono ((F _ hKb (nsK hns)).run callerA [] s₁ H ⟨[.ref a], []⟩ [.ref a] [.ref a] _ _ hr e0 (hbind s₁ (.ref a)) (.cons rfl .nil) (hsp H hO hS)) fun r s' h => ?_
    cases r with
    | error e => exact (hCX H e s' h).elim
    | ok fl =>
      cases fl with
      | next => exact False.elim h
      | brk => exact False.elim h
      | cont => exact False.elim h
      | ret u =>
        obtain ⟨v, H', os, bare, un, hok', r', q⟩ := h
        have q' : v = .bl true := q
        subst q'
        obtain rfl : u = Value.bool true := r'
        refine ⟨rfl, OldK.of_keep fun b o e => ?_, os, bare⟩
        cases q : H b with
        | none => exact un.keep b o e q (by intro z; exact absurd (show b ∈ ([] : List Addr) from z) (by simp)) (by simp)
        | some u =>
          rcases hO b with z | ⟨ob, xs, z⟩
          · rw [q] at z; cases z
          · have z2 := un.frzs b ob _ z
            obtain ⟨e1, _⟩ := hok b _ z
            obtain ⟨e2, _⟩ := hok' b _ z2
            rw [e] at e1; cases e1
            exact e2
  cases hk : K.lookup a with
  | some o =>
    -- the script is one of the module's own objects
    have e := KX a o hk
    rw [ha] at e
    cases e
    refine core (fun _ => none) (fun _ => .inl rfl) (.inr ⟨_, vs.toArray, _, hk, rfl, rfl, rfl, by rw [List.size_toArray, lenV]; exact hl, by simpa using rv⟩) (fun b u z => by have z' : (none : Option HO) = some u := z; cases z') (fun b z => absurd rfl z) fun z => absurd rfl z
  | none =>
    refine core (fun b => if b = a then some (.frz { cls := .type "list", data := .seq vs.toArray } (.lst (ns.map V.int))) else none) (fun b => ?_) (.inl (.inr ⟨{ cls := .type "list", data := .seq vs.toArray }, if_pos rfl⟩)) (fun b u z => ?_) (fun b z => ?_) fun _ => hk
    · by_cases hb : b = a
      · exact .inr ⟨_, _, if_pos hb⟩
      · exact .inl (if_neg hb)
    · by_cases hb : b = a
      · have z' := (if_pos hb).symm.trans z
        cases z'
        subst hb
        exact ⟨ha, by rw [List.length_map]; exact hl, vs, _, rv, ha⟩
      · have z' := (if_neg hb).symm.trans z
        cases z'
    · by_cases hb : b = a
      · exact hb
      · exact absurd (if_neg hb) z
end L2

namespace L2
open PySem PySem.Spec PyProof.Rows

abbrev KOf {K : PySem.W.Frag} {h : Heap} (_ : K.In h) : PySem.W.Frag := K

/-- the goal that k_head leaves (case hc), from the law's promise. F gives the function object fd (K's own) once, then the promise over every base -/
theorem walk_of {l : PySem.W.OpenLaw} {n k : Nat} {q : Program} {loose : List Str} {XP : (Str → Option Value) → Heap → Prop} {YP : World → Heap → Prop} {d : DefRec} {K : Params → PySem.W.Frag} {CX : World → CXT} {sp : World → Sp} {x : Str}
    (hn : l.most = some n) (hn2 : n ≤ sizeLine) (hdf : d.params.defaults = []) (hr : Room k callerA)
    (hY : ∀ (w : World) (h : Heap), YP w h → (K w.params).In h)
    (F : ∀ (w : World) (mg : Str → Option Value) (fa : Addr) (h : Heap), (K w.params).In h → h.Ns mainGlobals mg → mg d.name = some (.ref fa) →
      ∃ fd : FuncData, (∀ (s : Shared) (u : Value), BindsTo s fd ⟨[u], []⟩ [(x, u)]) ∧
        ∀ base : Heap, (K w.params).In base → base.Ns mainGlobals mg → FnOk l.prog w (K w.params) mg base (CX w) k fa fd [x] (sp w))
    (hsp : ∀ (w : World) (H : Hp) (a : Addr) (ns : List Int), ns.length ≤ n → Only H → SqL (K w.params) H a (ns.map V.int) → sp w [.ref a] H (fun v _ => v = .bl true) fun _ _ _ => False)
    (hCX : ∀ (w : World) (H : Hp) (s : Shared) (e : Value) (s' : Shared), CX w [] H s (fun _ _ _ => False) e s' → False) :
    PySem.W.WalkO q loose XP YP l.row.toRowW d [] (fun f vs => PySem.call f vs) := by
  refine Att.attach_call hn hdf fun w s₀ s₁ mg mb fa o pm cd doc a vs ns G Y ho hd hcd hmg hobj hints hlen hg => ?_
  have KX := hY w _ Y
  obtain ⟨fd, hb, hF⟩ := F w mg fa _ KX G.T.g hmg
  exact law_call KX G.T.g G.T.b G.T.builtins G.T.nolimit hg hobj hints (Nat.le_trans hlen hn2) hr hF hb (fun H hO hS => hsp w H a ns hlen hO hS) fun H e s' => hCX w H s₁ e s'
end L2

/- THE LAST THEOREM (shape; LID, My.* are yours):
   My.Adr: a structure of the addresses that your layer names (classes, functions); My.Txt K t: a structure (Prop) of the equations over K;
   My.txt_mk : {K} {implicit addresses ..} (e1 : nsIn K mainGlobals "law" = some (some (.ref f))) (e2 : K.lookup f = some ⟨oc, od, .func (fnOf "law" "law" params body scope dV kV doc pm an cdv ct), sl⟩) (e3 : codeIn K cdv "law" = true) .. : ∃ t, My.Txt K t

set_option maxRecDepth 100000 in
set_option maxHeartbeats 0 in
theorem PySem.Challenge.cw_LID_holds : PySem.Challenge.rw_LID.Holds := by
  w_on; o_law; k_head; (case hw => w_witness2)
  k_fill
  refine L2.walk_of (l := PySem.Challenge.rw_LID) (n := 63) (k := 40) (x := "script") (CX := fun w => ..) (sp := fun _ => My.sp_law) rfl (by decide) rfl ⟨rfl, by decide, by decide⟩ (fun w h Y => PySem.W.kIn_of Y) ?F ?S ?C
  case F =>
    intro w mg fa h KX G hmg
    have T : ∃ t, My.Txt (L2.KOf KX) t := by
      dsimp only [L2.KOf]                          -- K must stand as «<heap const> w.params» for k_is
      refine' My.txt_mk ?e1 ?e2 ?e3 ..
      (case e1 => PySem.W.k_is)                    -- in the order: a name -> its address -> its object -> its parts
      (case e2 => PySem.W.k_is)
      ..
    obtain ⟨t, T⟩ := T
    have e0 := hmg.symm.trans (PySem.W.mg_of KX G T.law)
    cases e0                                       -- fa is the law's own address
    exact ⟨_, fun s u => .of_eq rfl, fun base kb nb => My.law_fn T kb nb⟩     -- if «.of_eq rfl» comes too early: refine' ⟨_, ?b, fun base kb nb => My.law_fn T kb nb⟩; exact fun s u => .of_eq rfl
  case S => exact fun w H a ns hl hO hS => ..
  case C => exact ..
(the tactic k_is has no namespace: write k_is) -/

/-! SHORT WORDS over the layer: a def of the text, its body, what a loop and a test want. -/
namespace L2
open PySem PySem.Spec PyProof.Rows

/-! ### the text by places -/
def defArgs (s : Stmt) : Arguments := match s with
  | .FunctionDef _ a _ _ _ _ _ _ _ _ => a
  | _ => { posonlyargs := [], args := [], vararg := none, kwonlyargs := [], kw_defaults := [], kwarg := none, defaults := [] }
def defBody (s : Stmt) : List Stmt := match s with
  | .FunctionDef _ _ b _ _ _ _ _ _ _ => b
  | _ => []
def defScope (s : Stmt) : Scope := match s with
  | .FunctionDef _ _ _ _ _ _ sc _ _ _ => sc
  | _ => { kind := .function, names := [], isGenerator := false, isCoroutine := false }

/-! ### no exception leaves a def -/
abbrev CX0 : CXT := fun _ _ _ _ _ _ => False
abbrev E0 : XK := fun _ _ _ => False
theorem pass0 {X : Cx} : Passes CX0 X E0 := fun _ _ _ _ _ _ _ h => h.elim

/-! ### a def (or method) of the text as it stands behind the top -/
structure Fun (K : PySem.W.Frag) (x qual : Str) (st : Stmt) (f : Addr) (fd : FuncData) : Prop where
  ex : ∃ (oc : Value) (od : Option Addr) (kV doc pm : Value) (an : Option Addr) (cdv ct : Value) (osl : Array (Option Value)),
    fd = PySem.W.fnOf x qual (defArgs st) (defBody st) (defScope st) .none kV doc pm an cdv ct ∧ K.lookup f = some ⟨oc, od, .func fd, osl⟩ ∧ PySem.W.codeIn K cdv qual = true
  kp : PySem.W.keepIn K (.ref f) = true
section
variable {P : Program} {w : World} {K : PySem.W.Frag} {mg : Str → Option Value} {base : Heap}
/-- THE RULE for a def: its body as a term of rules, and the reading of that term -/
theorem Fun.ok {x qual : Str} {st : Stmt} {f : Addr} {fd : FuncData} {N ps : List Str} {k : Nat} {sp : Sp} (F : Fun K x qual st f fd) (S : FnScope N ps (defScope st)) (len : ∀ vs H Q E, sp vs H Q E → vs.length = ps.length)
    (hbody : ∀ (cdv : Value) (A : Around) (outer : List Env) (s : Shared) (H : Hp) (vs : List V) (Q : VK) (E : XK), Room k (A.deeper (envOfC qual (defScope st) s.heap.objs.size f cdv)) → sp vs H Q E →
      ∃ t, PSs (cxOf CX0 P w K mg base N qual (defScope st) f cdv A outer s H E).nox (defBody st) t ∧ t { nx := fun _ H' => Q .non H', rt := Q } (start N vs) H) : FnOk P w K mg base CX0 (k + 1) f fd ps sp := by
  obtain ⟨oc, od, kV, doc, pm, an, cdv, ct, osl, rfl, lk, hcd⟩ := F.ex
  refine fn_of lk hcd S len fun A outer s H vs Q E hr hsp => ?_
  obtain ⟨t, h, q⟩ := hbody cdv A outer s H vs Q E hr hsp
  exact ⟨t, h.nox, q⟩
/-- how its arguments bind (no defaults): h is «fun _ _ _ _ _ _ us hl => match us, hl with | [_, _], _ => rfl», one _ a parameter -/
theorem Fun.binds {x qual : Str} {st : Stmt} {f : Addr} {fd : FuncData} {ps : List Str} (F : Fun K x qual st f fd)
    (h : ∀ (kV doc pm : Value) (an : Option Addr) (cdv ct : Value) (us : List Value), us.length = ps.length → bindArgs (PySem.W.fnOf x qual (defArgs st) (defBody st) (defScope st) .none kV doc pm an cdv ct) ⟨us, []⟩ = pure (ps.zip us)) : Binds K fd ps [] := by
  obtain ⟨oc, od, kV, doc, pm, an, cdv, ct, osl, rfl, lk, hcd⟩ := F.ex
  exact .all (h kV doc pm an cdv ct)
theorem fun_mk {x qual : Str} {st : Stmt} {f : Addr} {oc : Value} {od an : Option Addr} {osl : Array (Option Value)} {kV doc pm cdv ct : Value} (l : K.lookup f = some ⟨oc, od, .func (PySem.W.fnOf x qual (defArgs st) (defBody st) (defScope st) .none kV doc pm an cdv ct), osl⟩)
    (c : PySem.W.codeIn K cdv qual = true) (k : PySem.W.keepIn K (.ref f) = true) : Fun K x qual st f (PySem.W.fnOf x qual (defArgs st) (defBody st) (defScope st) .none kV doc pm an cdv ct) := ⟨⟨oc, od, kV, doc, pm, an, cdv, ct, osl, rfl, l, c⟩, k⟩
end
/-! ### expressions in short: the name that stands in the i-th slot -/
section
variable {X : Cx}
theorem pv (i : Nat) {x : Str} {pos : Pos} (hN : X.N[i]? = some x := by rfl) (hv : Vis X.env.scope x := by first | exact Or.inl rfl | exact Or.inr (Or.inl rfl) | exact Or.inr (Or.inr rfl)) (hd : (x == ("__debug__" : Str)) = false := by decide)
    (hcd : (x == ("__classdict__" : Str)) = false := by decide) : PE X (.Name x pos) (tVar i) := pe_var hN hv hd hcd
end

/-! ### tests -/
theorem iteF {A B : Prop} (h : B) : if false = true then A else B := by
  rw [if_neg Bool.false_ne_true]
  exact h
theorem iteT {A B : Prop} (h : A) : if true = true then A else B := by
  rw [if_pos rfl]
  exact h
theorem ite2 {c A B : Prop} [Decidable c] (h1 : c → A) (h2 : ¬ c → B) : if c then A else B := by
  by_cases h : c
  · rw [if_pos h]
    exact h1 h
  · rw [if_neg h]
    exact h2 h
/-! ### heaps -/
/-- all that was tracked is as it was -/
def Same (H H' : Hp) : Prop := ∀ b o, H b = some o → H' b = some o
theorem Same.refl (H : Hp) : Same H H := fun _ _ h => h
theorem Same.trans {H H1 H2 : Hp} (a : Same H H1) (b : Same H1 H2) : Same H H2 := fun c o h => b c o (a c o h)
theorem Same.free {H H' : Hp} (e : Same H H') {l : Addr} (h : H' l = Option.none) : H l = Option.none := by
  cases q : H l with
  | none => rfl
  | some o =>
    rw [e l o q] at h
    cases h
theorem Same.seq {K : PySem.W.Frag} {H H' : Hp} {a : Addr} {xs : List V} (e : Same H H') (h : SqL K H a xs) : SqL K H' a xs := by
  rcases h with (h | ⟨o, h⟩) | h
  · exact .inl (.inl (e _ _ h))
  · exact .inl (.inr ⟨o, e _ _ h⟩)
  · exact .inr h

end L2

set_option Elab.async false
set_option linter.all false
set_option maxRecDepth 100000
set_option maxHeartbeats 4000000
/-! MY OWN ADDITIONS to the hand layer: texts -/
namespace L2
open PySem PySem.Spec PyProof.Rows PySem.Builtin PySem.Builtin.Str

/-- a text by its codes -/
def T (l : List Nat) : Str := ⟨l.toArray⟩
theorem T_cps (l : List Nat) : (T l).cps.toList = l := by simp [T]
theorem T_of (x : Str) : T x.cps.toList = x := by cases x; simp [T]
theorem T_inj {a b : List Nat} : T a = T b ↔ a = b := by
  constructor
  · intro h
    have := congrArg (fun x : Str => x.cps.toList) h
    simpa [T] using this
  · rintro rfl; rfl
theorem T_len (l : List Nat) : (T l).length = l.length := by simp [T, Str.length]
theorem T_app (a b : List Nat) : T a ++ T b = T (a ++ b) := by
  show Str.append (T a) (T b) = _
  simp [Str.append, T]
theorem T_decide (a b : List Nat) : decide ((V.str (T a)) = V.str (T b)) = decide (a = b) := by
  by_cases h : a = b
  · subst h; simp
  · rw [decide_eq_false h, decide_eq_false]
    intro q; injection q with q; exact h (T_inj.mp q)

def cutL (xs : List Nat) (lo hi : Option Int) : List Nat := (xs.drop (HT.sIx xs.length 0 lo)).take (HT.sIx xs.length xs.length hi - HT.sIx xs.length 0 lo)
theorem sliceIdx_cut (lo hi : Option Int) (n : Nat) : strSliceIndices lo hi 1 n = (List.range (HT.sIx n n hi - HT.sIx n 0 lo)).map (HT.sIx n 0 lo + ·) := by
  have h1 : (1 : Int) > 0 := by decide
  have a : ∀ (v : Int) (d : Nat), max 0 (min (if v < 0 then v + (n : Int) else v) (n : Int)) = ((HT.sIx n d (some v) : Nat) : Int) := by
    intro v d
    show _ = (((if v < 0 then (v + (n : Int)).toNat else min v.toNat n) : Nat) : Int)
    by_cases hv : v < 0
    · simp only [if_pos hv]; omega
    · simp only [if_neg hv]; omega
  have key : ∀ (p q : Nat), sliceRange (p : Int) (q : Int) 1 = (List.range (q - p)).map (p + ·) := by
    intro p q
    unfold sliceRange
    simp only [h1, if_true]
    have e : (if (p : Int) < (q : Int) then ((q : Int) - p + 1 - 1) / 1 else 0).toNat = q - p := by
      split <;> omega
    rw [e]
    refine List.map_congr_left fun k _ => ?_
    omega
  unfold strSliceIndices
  simp only [h1, if_true]
  cases lo with
  | none =>
    cases hi with
    | none => exact key 0 n
    | some v => dsimp only; rw [a v n]; exact key 0 _
  | some u =>
    cases hi with
    | none => dsimp only; rw [a u 0]; exact key _ n
    | some v => dsimp only; rw [a u 0, a v n]; exact key _ _
theorem sIx_hi_le (n : Nat) (o : Option Int) : HT.sIx n n o ≤ n := HT.sIx_le n n (Nat.le_refl _) o
theorem slice_cut (x : List Nat) (lo hi : Option Int) : Txt.slice (T x) lo hi = T (cutL x lo hi) := by
  have hlen : (T x).length = x.length := T_len x
  have hle := sIx_hi_le x.length hi
  have e : (strSliceIndices lo hi 1 (T x).length).filterMap ((T x).cps[·]?) = cutL x lo hi := by
    rw [sliceIdx_cut, hlen]
    unfold cutL
    generalize hp : HT.sIx x.length 0 lo = p
    generalize HT.sIx x.length x.length hi = q at hle ⊢
    by_cases hpq : p ≤ q
    · have := StrLaws.picks x (q - p) p (by omega)
      rw [← this]
      simp [T]
    · have : q - p = 0 := by omega
      rw [this]; simp
  unfold Txt.slice
  split
  · rename_i h
    have h2 : (strSliceIndices lo hi 1 (T x).length).length = (T x).length := by
      simp only [Bool.and_eq_true, beq_iff_eq] at h; exact h.2
    rw [sliceIdx_cut, hlen, List.length_map, List.length_range] at h2
    have h3 : HT.sIx x.length 0 lo ≤ x.length := HT.sIx_le _ 0 (Nat.zero_le _) lo
    unfold cutL
    by_cases hx : x.length = 0
    · have : x = [] := List.eq_nil_of_length_eq_zero hx
      subst this; simp
    · have e1 : HT.sIx x.length 0 lo = 0 := by omega
      have e2 : HT.sIx x.length x.length hi = x.length := by omega
      rw [e1, e2]; simp
  · rw [e]; rfl

section
variable {X : Cx}
def rLower : V → List V → Hp → VK → Prop := fun x vs H Q => ∃ z, x = .str z ∧ vs = [] ∧ z.length ≤ 5592405 ∧ Q (.str (Txt.lower z)) H
theorem mt_lower : MtR X "str.lower" rLower := by
  intro pins s σ H x xs v us Q I rx rs h
  obtain ⟨z, rfl, rfl, hz, q⟩ := h
  obtain ⟨t, rfl⟩ := rx
  cases rs
  exact SCL.lower hz fun _ => ⟨.str _, H, I.tok _, ⟨_, rfl⟩, q⟩
theorem vals_strs : ∀ (l : List (Str × Tok)), Vals ((l.map (·.1)).map V.str) (strValues l)
  | [] => .nil
  | p :: r => .cons ⟨p.2, rfl⟩ (vals_strs r)
theorem strs_vals : ∀ {ys : List Str} {us : List Value}, Vals (ys.map V.str) us → StrsAre us ys
  | [], _, h => by cases h; exact .nil
  | y :: r, _, h => by
    cases h with
    | cons a b =>
      obtain ⟨t, rfl⟩ := a
      exact .cons y t (strs_vals b)
/-- x.split(y), y not empty: a new list -/
def rSplit : V → List V → Hp → VK → Prop := fun x vs H Q => ∃ z y, x = .str z ∧ vs = [.str y] ∧ (y.length == 0) = false ∧ z.length + 2 ≤ sizeLine ∧ ∀ p, H p = none → Q (.ref p) (upd H p (.lst ((Txt.split z y).map V.str)))
theorem split_len (x y : Str) : (Txt.split x y).length ≤ x.length + 2 := by
  unfold Txt.split
  split
  · simp
  · split
    · simp
    · rw [length_partsBetween]
      have := StrLaws.occ_length_le x y 0 x.length (x.length + 1)
      omega
theorem mt_split : MtR X "str.split" rSplit := by
  intro pins s σ H x xs v us Q I rx rs h
  obtain ⟨z, y, rfl, rfl, hy, hz, q⟩ := h
  obtain ⟨t, rfl⟩ := rx
  obtain ⟨u, rfl, ru⟩ := Vals.one rs
  obtain ⟨u, rfl⟩ := ru
  have hlen := split_len z y
  have fin : ∀ (l : List (Str × Tok)) (k : Nat), l.map (·.1) = Txt.split z y →
      EP X pins σ Q (.ref s.heap.objs.size) { s with heap := s.heap.push { cls := .type "list", data := .seq (strValues l).toArray }, toks := k } := fun l k e => by
    have v1 := vals_strs l
    rw [e] at v1
    exact ⟨.ref s.heap.objs.size, _, I.lnew v1 (by rw [List.length_map]; omega), rfl, q _ I.fresh⟩
  have hn : (partsBetween z (occurrences z y 0 z.length (z.length + 1)) y.length).length ≤ sizeLine := by
    have e1 := StrLaws.occ_length_le z y 0 z.length (z.length + 1)
    rw [length_partsBetween]; omega
  cases h1 : (decide (z.length < y.length) || decide (strKind z < strKind y))
  · cases hf : (occurrences z y 0 z.length (z.length + 1)).isEmpty
    · refine call_meets F.slot_str_split (typeIs_str _ _ _) F.entry_str_split (F.args_str_split_2 _ _) (meets_str_split_sep z y t u h1 hy hf (by omega) hn) ?_
      show wants (EP X pins σ Q) X.xe _ { s with toks := _, heap := s.heap.push { cls := .type "list", data := .seq (strsFrom s.toks (partsBetween z (occurrences z y 0 z.length (z.length + 1)) y.length)).toArray } }
      rw [strsFrom_eq]
      exact fin (numbered s.toks _) _ ((numbered_texts _ _).trans ((if_neg (ne_true_of_eq_false h1)).trans (if_neg (ne_true_of_eq_false hf))).symm)
    · exact call_meets F.slot_str_split (typeIs_str _ _ _) F.entry_str_split (F.args_str_split_2 _ _) (meets_str_split_not_found z y t u h1 hy hf)
        (fin [(z, t)] s.toks ((if_neg (ne_true_of_eq_false h1)).trans (if_pos hf)).symm)
  · exact call_meets F.slot_str_split (typeIs_str _ _ _) F.entry_str_split (F.args_str_split_2 _ _) (meets_str_split_cannot_occur z y t u h1)
      (fin [(z, t)] s.toks (if_pos h1).symm)
/-- sep.join(list of texts) -/
def rJoin (K : PySem.W.Frag) : V → List V → Hp → VK → Prop := fun x vs H Q => ∃ z p ys, x = .str z ∧ vs = [.ref p] ∧ SqL K H p (ys.map V.str) ∧ (ys.map (·.length)).sum + ys.length * z.length ≤ 16777216 ∧ Q (.str (Str.join z ys)) H
theorem mt_join : MtR X "str.join" (rJoin X.K) := by
  intro pins s σ H x xs v us Q I rx rs h
  obtain ⟨z, p, ys, rfl, rfl, hl, hz, q⟩ := h
  obtain ⟨t, rfl⟩ := rx
  obtain ⟨u, rfl, ru⟩ := Vals.one rs
  cases ru
  obtain ⟨its, r, pl, _⟩ := I.list hl
  refine join_list pl.isList (ys := ys) (by simpa using strs_vals r) hz fun t' k => ⟨.str _, H, I.tok _, ⟨_, by show _ = Value.str (Str.join z ys) t'; rw [← StrLaws.glued_eq_join]; rfl⟩, q⟩
def rFind : V → List V → Hp → VK → Prop := fun x vs H Q => ∃ z y, x = .str z ∧ vs = [.str y] ∧ Q (.int (Txt.find z y)) H
theorem mt_find : MtR X "str.find" rFind := by
  intro pins s σ H x xs v us Q I rx rs h
  obtain ⟨z, y, rfl, rfl, q⟩ := h
  obtain ⟨t, rfl⟩ := rx
  obtain ⟨u, rfl, ru⟩ := Vals.one rs
  obtain ⟨u, rfl⟩ := ru
  exact SC.find ⟨.int _, H, I.tok _, ⟨_, rfl⟩, q⟩
/-- x[lo:hi] of a text -/
def rSlS : V → Option Int → Option Int → Hp → VK → Prop := fun x lo hi H Q => ∃ l, x = .str (T l) ∧ l.length ≤ sizeLine ∧ Q (.str (T (cutL l lo hi))) H
theorem sl_str : SlR X rSlS := by
  intro pins s σ H x v vl vu lo hi sl Q I rx hs pl pu h
  obtain ⟨l, rfl, hz, q⟩ := h
  obtain ⟨t, rfl⟩ := rx
  refine ⟨"str", _, F.slot_str_getitem.lookup, typeIs_str _ _ _, ?_⟩
  have hz' : (T l).length ≤ sizeLine := by rw [T_len]; exact hz
  have fin : (Txt.slice (T l) lo hi).length ≤ sizeLine ∧ ∀ t' k, EP X pins σ Q (.str (Txt.slice (T l) lo hi) t') { s with toks := k } :=
    ⟨Nat.le_trans (Txt.slice_le _ _ _) hz', fun t' k => ⟨.str _, H, I.tok _, ⟨_, by rw [slice_cut]⟩, q⟩⟩
  obtain ⟨o, ho, hc, hd⟩ := hs
  cases pl with
  | none =>
    cases pu with
    | none => exact wpAny_getItem_str_slice (l := none) (u := none) (st := none) ⟨o, ho, hc, hd⟩ rfl (post_val_or_str fin)
    | int j uj => exact wpAny_getItem_str_slice (l := none) (u := some (j, uj)) (st := none) ⟨o, ho, hc, hd⟩ rfl (post_val_or_str fin)
  | int i ui =>
    cases pu with
    | none => exact wpAny_getItem_str_slice (l := some (i, ui)) (u := none) (st := none) ⟨o, ho, hc, hd⟩ rfl (post_val_or_str fin)
    | int j uj => exact wpAny_getItem_str_slice (l := some (i, ui)) (u := some (j, uj)) (st := none) ⟨o, ho, hc, hd⟩ rfl (post_val_or_str fin)
end

/-! ### for over a text's signs -/
def Its (x : Str) : It := ⟨fun i _ => i < x.cps.toList.length, fun i H v H' => H' = H ∧ ∃ c, x.cps.toList[i]? = some c ∧ v = .str (T [c]), fun i _ => x.cps.toList.length ≤ i⟩
theorem turn_walk {P : Program} {w : World} {K : PySem.W.Frag} {tg : Expr} {it : Addr} {n : Nat} {R : Nat → Value → Prop} {St : Nat → Heap → Prop} {J : It}
    (W : ∀ A' : Around, A'.handled = none → Walks P w A' it [it] [it] n R St) (hself : ∀ (A' : Around) (i : Nat) (s : Shared) (Q : Value → Shared → Prop) (E : Value → Shared → Prop), St i s.heap → Q (.ref it) s → wpAny (model P w) A' (pyIter (.ref it)) Q E s) (ho : ∀ i h, St i h → ∃ o T vs, h.get? it = some o ∧ o.cls = .type T ∧ o.data = .fields vs ∧ ["enumerate", "zip", "dict_itemiterator", "dict_reverseitemiterator", "odict_iterator", "itertools.zip_longest", "itertools.pairwise"].contains T = false)
    (hgo : ∀ i H, J.go i H → i < n) (hst : ∀ i H, J.stop i H → n ≤ i) (hy : ∀ i v H, i < n → R i v → ∃ x, RelV x v ∧ J.yld i H x H) : Turn P w K tg J [it] it (fun i h => i ≤ n ∧ St i h) where
  mem := by simp
  obj := fun i h st b hb => by
    have e : b = it := by simpa using hb
    subst e
    obtain ⟨o, T, vs, e, c, d, _⟩ := ho i h st.2
    exact ⟨o, e, fun v z => by rw [d] at z; cases z⟩
  keep := fun i h h' st k => ⟨st.1, by
    have W0 := W ({} : Around) rfl
    exact W0.frame i h h' st.2 fun b hb o e => k b hb o e⟩
  item := by
    intro X hP hw hK hc i pins s σ H E I hf st hg
    subst hP hw hK
    obtain ⟨f0, f1, f2, f3, f4, f5⟩ := hf it (by simp)
    have hi := hgo i H hg
    refine (W X.A (I.ok.hd hc)).item i s _ _ hi st.2 fun v h' tk hv st' kk => ?_
    obtain ⟨x, rx, yx⟩ := hy i v H hi hv
    have I1 : Inv X pins σ H { s with heap := h', toks := tk } := I.turned (fun b o hb e => kk b o (by simpa using hb) e) f0 f1 f3 f4 f5
    obtain ⟨o, T, vs, e, c, d, nz⟩ := ho _ _ st'
    exact ⟨v, rfl, go_of (s := { s with heap := h', toks := tk }) (n := T) e c d nz ⟨x, H, I1, rx, yx, ⟨hi, st'⟩, fun b hb => (hf b hb).1⟩⟩
  done := by
    intro X hP hw hK hc i pins s σ H E I hf st hg
    subst hP hw hK
    obtain ⟨f0, f1, f2, f3, f4, f5⟩ := hf it (by simp)
    have e : i = n := Nat.le_antisymm st.1 (hst i H hg)
    subst e
    exact (W X.A (I.ok.hd hc)).done s _ _ st.2 fun h' tk kk => ⟨rfl, I.turned (fun b o hb e => kk b o (by simpa using hb) e) f0 f1 f3 f4 f5⟩
  self := fun A i s Q E st h => hself A i s Q E st.2 h
section
variable {X : Cx} {tg : Expr}
def iStr (tl : TE) : TI := fun σ H R => tl σ H fun x H1 => ∃ z, x = .str z ∧ R (Its z) H1
theorem pi_str {l : Expr} {tl : TE} (hl : PE X l tl) : PI X tg l (iStr tl) := by
  intro pins s σ H R I h
  refine thn (hl pins s σ H _ I h) fun v s1 ⟨x, H1, I1, r1, q1⟩ => ?_
  obtain ⟨z, e, q⟩ := q1
  subst e
  obtain ⟨t, rfl⟩ := r1
  have fin : ∀ (o : Obj) (St : Nat → Heap → Prop), Turn X.prog X.w X.K tg (Its z) [s1.heap.objs.size] s1.heap.objs.size (fun i h => i ≤ z.cps.size ∧ St i h) → St 0 (s1.heap.push o) →
      PIE X pins σ tg R (.ref s1.heap.objs.size) { s1 with heap := s1.heap.push o } := fun o St Tn st => by
    refine ⟨s1.heap.objs.size, [s1.heap.objs.size], _, _, H1, rfl, I1.kept (t' := s1.toks) fun b o e => Heap.get?_push_of_some _ e, Tn, ⟨Nat.zero_le _, st⟩, fun b hb => ?_, q⟩
    have e : b = s1.heap.objs.size := by simpa using hb
    subst e
    exact I1.fpOk (Nat.le_refl _) (I1.hok.fresh (Nat.le_refl _))
  have hgo : ∀ i H, (Its z).go i H → i < z.cps.size := fun i _ h => by simpa [Its] using h
  have hst : ∀ i H, (Its z).stop i H → z.cps.size ≤ i := fun i _ h => by simpa [Its] using h
  have hy : ∀ i v H, i < z.cps.size → SignAt z i v → ∃ x, RelV x v ∧ (Its z).yld i H x H := fun i v H hi ⟨c, u, hc, e⟩ => by
    subst e
    exact ⟨.str (T [c]), ⟨u, rfl⟩, rfl, c, by simpa using hc, rfl⟩
  cases ha : z.cps.all (· < 128)
  · refine wpAny_pyIter_wide ha (fin _ _ (turn_walk (n := z.cps.size) (R := SignAt z) (St := fun i h => h.IsStrIter s1.heap.objs.size "str_iterator" z t i) (fun A' hA => Walks.strWide hA _ z t) (fun _ _ _ _ _ st q => wpAny_pyIter_striter_wide st q) (fun i h st => ?_) hgo hst hy) ⟨_, Heap.get?_push_size _ rfl, rfl, rfl⟩)
    obtain ⟨o, e, c, d⟩ := st
    exact ⟨o, _, _, e, c, d, by decide⟩
  · refine wpAny_pyIter_ascii ha (fin _ _ (turn_walk (n := z.cps.size) (R := SignAt z) (St := fun i h => h.IsStrIter s1.heap.objs.size "str_ascii_iterator" z t i) (fun A' hA => Walks.strAscii hA _ z t) (fun _ _ _ _ _ st q => wpAny_pyIter_striter_ascii st q) (fun i h st => ?_) hgo hst hy) ⟨_, Heap.get?_push_size _ rfl, rfl, rfl⟩)
    obtain ⟨o, e, c, d⟩ := st
    exact ⟨o, _, _, e, c, d, by decide⟩
end
/-- over a text's signs -/
theorem for_str {z : List Nat} {g : TG} {tb : TS} {D : Ends} {σ : St} {H : Hp} (Pv : Nat → St → Hp → Prop) (h0 : Pv 0 σ H)
    (hs : ∀ i c σ H, z[i]? = some c → Pv i σ H → g (.str (T [c])) σ H fun σ2 H2 => tb { D with nx := Pv (i + 1), ct := Pv (i + 1), bk := D.nx } σ2 H2) (hd : ∀ σ H, Pv z.length σ H → D.nx σ H) :
    ∃ W : Nat → Nat → St → Hp → Prop, (∃ m, W 0 m σ H) ∧ ∀ i m σ H, W i m σ H →
      ((Its (T z)).stop i H ∧ D.nx σ H) ∨ ((Its (T z)).go i H ∧ ∃ N : St → Hp → Prop, (∀ σ' H', N σ' H' → ∃ m', m' < m ∧ W (i + 1) m' σ' H') ∧ ∀ x H', (Its (T z)).yld i H x H' → g x σ H' fun σ2 H2 => tb { D with nx := N, ct := N, bk := D.nx } σ2 H2) := by
  have ez : (T z).cps.toList = z := T_cps z
  refine ⟨fun i m σ H => m = z.length - i ∧ i ≤ z.length ∧ Pv i σ H, ⟨z.length, by simp, Nat.zero_le _, h0⟩, ?_⟩
  rintro i m σ H ⟨rfl, hi, p⟩
  by_cases hlt : i < z.length
  · refine .inr ⟨by show i < _; rw [ez]; exact hlt, Pv (i + 1), fun σ' H' p' => ⟨z.length - (i + 1), by omega, rfl, hlt, p'⟩, fun x H' y => ?_⟩
    obtain ⟨e, c, hc, rfl⟩ := y
    subst e
    rw [ez] at hc
    exact hs i c σ _ hc p
  · have e : i = z.length := by omega
    subst e
    exact .inl ⟨by show _ ≤ _; rw [ez]; exact Nat.le_refl _, hd σ H p⟩
end L2

set_option Elab.async false
set_option linter.all false
set_option maxRecDepth 100000
set_option maxHeartbeats 4000000
/-! MY OWN ADDITIONS to the hand layer: list comprehensions of one clause -/
namespace L2
open PySem PySem.Spec PyProof.Rows

/-- the cells that a block closes over -/
def clos (cells : List (Str × Addr)) : List (Str × NameKind) → List (Str × Addr) → List (Str × Addr)
  | [], acc => acc
  | (n, k) :: r, acc => if k == .free then (match cells.lookup n with | some c => clos cells r ((n, c) :: acc) | none => clos cells r acc) else clos cells r acc
theorem clos_sub {cells : List (Str × Addr)} : ∀ (names : List (Str × NameKind)) (acc : List (Str × Addr)), (∀ x c, acc.lookup x = some c → cells.lookup x = some c) → ∀ x c, (clos cells names acc).lookup x = some c → cells.lookup x = some c
  | [], _, h => h
  | (n, k) :: r, acc, h => by
    intro x c
    unfold clos
    split
    · cases e : cells.lookup n with
      | none => exact clos_sub r acc h x c
      | some d =>
        refine clos_sub r _ (fun y z hy => ?_) x c
        rw [List.lookup_cons] at hy
        cases q : y == n with
        | true =>
          rw [q] at hy
          have : y = n := by simpa using q
          subst this
          simpa [e] using hy
        | false => rw [q] at hy; exact h y z hy
    · exact clos_sub r acc h x c
theorem clos_acc {cells : List (Str × Addr)} : ∀ (names : List (Str × NameKind)) (acc : List (Str × Addr)) (x : Str), (acc.lookup x).isSome = true → ((clos cells names acc).lookup x).isSome = true
  | [], _, _, h => h
  | (n, k) :: r, acc, x, h => by
    unfold clos
    split
    · cases e : cells.lookup n with
      | none => exact clos_acc r acc x h
      | some d =>
        refine clos_acc r _ x ?_
        rw [List.lookup_cons]
        cases q : x == n with
        | true => rfl
        | false => exact h
    · exact clos_acc r acc x h
theorem clos_has {cells : List (Str × Addr)} : ∀ (names : List (Str × NameKind)) (acc : List (Str × Addr)) (x : Str), (x, NameKind.free) ∈ names → (cells.lookup x).isSome = true → ((clos cells names acc).lookup x).isSome = true
  | (n, k) :: r, acc, x, hm, hs => by
    unfold clos
    rcases List.mem_cons.mp hm with e | hm
    · cases e
      simp only [beq_self_eq_true, if_true]
      obtain ⟨c, hc⟩ := Option.isSome_iff_exists.mp hs
      rw [hc]
      refine clos_acc r _ _ ?_
      simp [List.lookup_cons]
    · split
      · cases e : cells.lookup n with
        | none => exact clos_has r acc x hm hs
        | some d => exact clos_has r _ x hm hs
      · exact clos_has r acc x hm hs
theorem closure_eq {scope : Scope} {env : Env} (h : ∀ x, (x, NameKind.free) ∈ scope.names → (env.cells.lookup x).isSome = true) : closureFor scope env = pure (clos env.cells scope.names []) := by
  have gen : ∀ (names : List (Str × NameKind)) (acc : List (Str × Addr)), (∀ x, (x, NameKind.free) ∈ names → (env.cells.lookup x).isSome = true) →
      (forIn names acc (fun (p : Str × NameKind) (r : List (Str × Addr)) => (if p.2 == NameKind.free then (do let c ← cellOf env p.1; pure (ForInStep.yield ((p.1, c) :: r))) else pure (ForInStep.yield r) : Sem (ForInStep (List (Str × Addr)))))) = pure (clos env.cells names acc) := by
    intro names
    induction names with
    | nil => intro acc _; rfl
    | cons p r ih =>
      obtain ⟨n, k⟩ := p
      intro acc hh
      rw [List.forIn_cons]
      unfold clos
      cases hk : k == NameKind.free with
      | false =>
        simp only [hk, Bool.false_eq_true, if_false]
        exact ih acc fun x hx => hh x (List.mem_cons_of_mem _ hx)
      | true =>
        have hk' : k = .free := by simpa using hk
        subst hk'
        obtain ⟨c, hc⟩ := Option.isSome_iff_exists.mp (hh n List.mem_cons_self)
        have e : cellOf env n = pure c := by unfold cellOf; rw [hc]
        simp only [beq_self_eq_true, if_true, e, hc]
        exact ih _ fun x hx => hh x (List.mem_cons_of_mem _ hx)
  exact (congrArg (fun (m : Sem (List (Str × Addr))) => m >>= fun cs => pure cs) (gen scope.names [] h)).trans rfl

/-! ### the block -/
/-- the names' values as the block begins: nt targets, then the captured names (cs: their slots outside) -/
def lcS (nt : Nat) (cs : List Nat) (σ : St) : St := List.replicate nt none ++ cs.map fun i => (σ[i]?).getD none
def lcCx (X : Cx) (N' : List Str) (scope : Scope) (s : Shared) (H : Hp) (C : Addr) (fp : List Addr) : Cx :=
  { X with N := N', s₀ := s, H₀ := H, env := compEnvC scope (clos X.env.cells scope.names []) C X.env, outer := X.stack, stack := X.stack, ex := fp, fn := fun _ => false, pn := [], xe := fun _ _ => False }
/-- what is looked up once: Nx, sc the names and the scope outside -/
def lcOk (Nx : List Str) (sc scope : Scope) (N' : List Str) (nt : Nat) (cs : List Nat) : Bool :=
  decide (scope.kind = .function) && (scope.names.all fun p => match p.2 with
    | .cell => false
    | .local => decide (scope.names.lookup p.1 = some .local)
    | .free => decide (sc.names.lookup p.1 = some .cell) || decide (sc.names.lookup p.1 = some .free)
    | _ => true) && decide (N'.length = nt + cs.length) && (((N'.drop nt).zip cs).all fun p => decide (Nx[p.2]? = some p.1) && decide (scope.names.lookup p.1 = some .free) && (decide (sc.names.lookup p.1 = some .cell) || decide (sc.names.lookup p.1 = some .free)))
structure LcOk (X : Cx) (scope : Scope) (N' : List Str) (nt : Nat) (cs : List Nat) : Prop where
  kind : scope.kind = .function
  nocell : ∀ y ∈ scope.names, y.2 ≠ .cell
  loc : ∀ y ∈ scope.names, y.2 = .local → scope.names.lookup y.1 = some .local
  fr : ∀ x, (x, NameKind.free) ∈ scope.names → X.env.kindOf x = some .cell ∨ X.env.kindOf x = some .free
  len : N'.length = nt + cs.length
  cap : ∀ j i, cs[j]? = some i → ∃ x, N'[nt + j]? = some x ∧ X.N[i]? = some x ∧ scope.names.lookup x = some .free ∧ Vis X.env.scope x ∧ X.env.kindOf x ≠ some .local
theorem LcOk.of {X : Cx} {scope : Scope} {N' : List Str} {nt : Nat} {cs : List Nat} {Nx : List Str} {sc : Scope} (hN : X.N = Nx) (hs : X.env.scope = sc) (h : lcOk Nx sc scope N' nt cs = true) : LcOk X scope N' nt cs := by
  subst hN hs
  unfold lcOk at h
  simp only [Bool.and_eq_true, decide_eq_true_eq, List.all_eq_true] at h
  obtain ⟨⟨⟨h1, h2⟩, h3⟩, h4⟩ := h
  refine ⟨h1, fun y hy e => ?_, fun y hy e => ?_, fun x hx => ?_, h3, fun j i e => ?_⟩
  · have := h2 y hy; rw [e] at this; exact Bool.false_ne_true this
  · have := h2 y hy; rw [e] at this; exact of_decide_eq_true this
  · have := h2 _ hx
    simp only [Bool.or_eq_true, decide_eq_true_eq] at this
    exact this
  · have hj : j < cs.length := (List.getElem?_eq_some_iff.mp e).1
    have hd : (N'.drop nt).length = cs.length := by rw [List.length_drop, h3]; omega
    have hx : (N'.drop nt)[j]? = some ((N'.drop nt)[j]'(by omega)) := by simp [hd, hj]
    generalize (N'.drop nt)[j]'(by omega) = x at hx
    have hz : (x, i) ∈ (N'.drop nt).zip cs := by
      refine List.mem_of_getElem? (i := j) ?_
      rw [List.getElem?_zip_eq_some]
      exact ⟨hx, e⟩
    have q := h4 _ hz
    simp only [Bool.and_eq_true, Bool.or_eq_true, decide_eq_true_eq] at q
    refine ⟨x, by rw [List.getElem?_drop] at hx; exact hx, q.1.1, q.1.2, ?_, fun z => ?_⟩
    · exact q.2.elim (fun z => .inr (.inl z)) fun z => .inr (.inr z)
    · have z' : X.env.scope.names.lookup x = some .local := z
      rcases q.2 with y | y <;> · rw [z'] at y; cases y
theorem relabel_free {env : Env} : ∀ {names : List (Str × NameKind)} {x : Str}, names.lookup x = some .free →
    (names.map fun (n, k) => if (k == NameKind.free && env.scope.kind == .function && env.kindOf n == some .cell) then (n, NameKind.cell) else (n, k)).lookup x = some .cell ∨
    (names.map fun (n, k) => if (k == NameKind.free && env.scope.kind == .function && env.kindOf n == some .cell) then (n, NameKind.cell) else (n, k)).lookup x = some .free
  | [], _, h => by simp at h
  | (n, k) :: r, x, h => by
    have ih := @relabel_free env r x
    show List.lookup x ((if (k == NameKind.free && env.scope.kind == .function && env.kindOf n == some .cell) = true then (n, NameKind.cell) else (n, k)) :: _) = _ ∨ List.lookup x ((if (k == NameKind.free && env.scope.kind == .function && env.kindOf n == some .cell) = true then (n, NameKind.cell) else (n, k)) :: _) = _
    cases hx : x == n with
    | true =>
      simp only [List.lookup_cons, hx] at h
      cases h
      by_cases hc : (NameKind.free == NameKind.free && env.scope.kind == .function && env.kindOf n == some .cell) = true
      · rw [if_pos hc]; left; simp only [List.lookup_cons, hx]
      · rw [if_neg hc]; right; simp only [List.lookup_cons, hx]
    | false =>
      simp only [List.lookup_cons, hx] at h
      by_cases hc : (k == NameKind.free && env.scope.kind == .function && env.kindOf n == some .cell) = true
      · rw [if_pos hc]; simp only [List.lookup_cons, hx]; exact ih h
      · rw [if_neg hc]; simp only [List.lookup_cons, hx]; exact ih h
theorem relabel_back {env : Env} : ∀ {names : List (Str × NameKind)} {x : Str} {q : NameKind}, (∀ y ∈ names, y.2 ≠ .cell) → (q = .cell ∨ q = .free) →
    (names.map fun (n, k) => if (k == NameKind.free && env.scope.kind == .function && env.kindOf n == some .cell) then (n, NameKind.cell) else (n, k)).lookup x = some q → (x, NameKind.free) ∈ names
  | [], _, _, _, _, h => by simp at h
  | (n, k) :: r, x, q, hn, hq, h => by
    have ih := @relabel_back env r x q (fun y hy => hn y (List.mem_cons_of_mem _ hy)) hq
    have h' : List.lookup x ((if (k == NameKind.free && env.scope.kind == .function && env.kindOf n == some .cell) = true then (n, NameKind.cell) else (n, k)) :: (r.map fun (n, k) => if (k == NameKind.free && env.scope.kind == .function && env.kindOf n == some .cell) then (n, NameKind.cell) else (n, k))) = some q := h
    cases hx : x == n with
    | true =>
      have e : x = n := by simpa using hx
      subst e
      by_cases hc : (k == NameKind.free && env.scope.kind == .function && env.kindOf x == some .cell) = true
      · simp only [Bool.and_eq_true, beq_iff_eq] at hc
        rw [hc.1.1]; exact List.mem_cons_self
      · rw [if_neg hc] at h'
        simp only [List.lookup_cons, beq_self_eq_true] at h'
        cases h'
        rcases hq with rfl | rfl
        · exact absurd rfl (hn (x, .cell) List.mem_cons_self)
        · exact List.mem_cons_self
    | false =>
      refine List.mem_cons_of_mem _ (ih ?_)
      by_cases hc : (k == NameKind.free && env.scope.kind == .function && env.kindOf n == some .cell) = true
      · rw [if_pos hc] at h'; simp only [List.lookup_cons, hx] at h'; exact h'
      · rw [if_neg hc] at h'; simp only [List.lookup_cons, hx] at h'; exact h'

section
variable {X : Cx} {pins : List (Addr × Obj)} {σ : St} {H : Hp} {s s' : Shared} {scope : Scope} {N' : List Str} {nt : Nat} {cs : List Nat} {C : Addr} {fp : List Addr} {h' : Heap} {t' : Nat}
/-- into the block: C the block's new namespace -/
theorem lc_enter (I : Inv X pins σ H s) (L : LcOk X scope N' nt cs) (hf : ∀ b ∈ fp, FpOk X pins H b) (hC : s.heap.objs.size ≤ C) (k : ∀ b u, s.heap.get? b = some u → h'.get? b = some u) (hns : h'.Ns C fun _ => none) (fpo : ∀ b ∈ fp, b < s.heap.objs.size) :
    Inv (lcCx X N' scope s H C fp) [] (lcS nt cs σ) H { s with heap := h', toks := t' } := by
  have hfree : H C = none := I.hok.fresh hC
  have csub : ∀ x c, (clos X.env.cells scope.names []).lookup x = some c → X.env.cells.lookup x = some c := clos_sub _ _ fun x c h => by simp at h
  have chas : ∀ x, (x, NameKind.free) ∈ scope.names → ((clos X.env.cells scope.names []).lookup x).isSome = true := fun x hx => by
    refine clos_has _ _ x hx ?_
    obtain ⟨c, e⟩ := I.ok.has x (L.fr x hx)
    rw [e]; rfl
  have I4 : Inv X pins σ H { s with heap := h', toks := t' } := I.kept k
  refine ⟨⟨I.ok.mod, L.kind, I.ok.glob, I.ok.blt, hC, fun x y c h1 h2 => I.ok.inj x y c (csub x c h1) (csub y c h2), fun x hx => ?_, fun x c hx => (nomatch hx), I.ok.hd, I.ok.frames, .inl rfl, fun b hb => ⟨?_, fun x c e => ?_⟩, I.bs, Nat.le_trans I.ok.bsz I.sz, fun b o e hb => ?_, fun b hb => ?_, I.stack, I.stkFree⟩,
    rfl, I.bare, Un.kept k, ⟨_, hns, fun i x v e1 e2 e3 => ?_⟩, fun x c e => ?_, hfree, fun x c e => I.freeC x c (csub x c e), fun p hp => absurd (show p ∈ ([] : List (Addr × Obj)) from hp) (by simp), I4.hok, ?_⟩
  · have hx' : (x, NameKind.free) ∈ scope.names := by
      rcases hx with hx | hx
      · exact relabel_back (env := X.env) L.nocell (.inl rfl) hx
      · exact relabel_back (env := X.env) L.nocell (.inr rfl) hx
    exact Option.isSome_iff_exists.mp (chas x hx')
  · exact Nat.ne_of_lt (Nat.lt_of_lt_of_le (fpo b hb) hC)
  · exact (hf b hb).2.2.2.2.1 x c (csub x c e)
  · obtain ⟨f0, f1, f2, f3, _⟩ := hf b hb
    rcases f3 with z | z
    · exact I.ok.noex b o e z
    · exact absurd (Nat.lt_of_lt_of_le (Heap.lt_size e) (Nat.le_trans I.ok.bsz z)) (Nat.lt_irrefl _)
  · obtain ⟨f0, f1, f2, f3, _⟩ := hf b hb
    intro z
    rcases List.mem_cons.mp (I.stkSub b z) with q | q
    · exact f1 q
    · exact f2 q
  · -- a captured name
    have e2' : (lcS nt cs σ)[i]? = some (some v) := e2
    unfold lcS at e2'
    by_cases hi : i < nt
    · rw [List.getElem?_append_left (by simpa using hi), List.getElem?_replicate] at e2'
      split at e2' <;> cases e2'
    · rw [List.getElem?_append_right (by simpa using hi), List.length_replicate, List.getElem?_map] at e2'
      cases ej : cs[i - nt]? with
      | none => rw [ej] at e2'; cases e2'
      | some j =>
        rw [ej] at e2'
        have e2'' : (σ[j]?).getD none = some v := Option.some.inj e2'
        have hσ : σ[j]? = some (some v) := by
          cases q : σ[j]? with
          | none => rw [q] at e2''; cases e2''
          | some z => rw [q] at e2''; exact congrArg some e2''
        obtain ⟨y, y1, y2, y3, y4, y5⟩ := L.cap _ _ ej
        have hxy : x = y := by
          have e1' : N'[i]? = some x := e1
          rw [show nt + (i - nt) = i by omega, e1'] at y1
          exact Option.some.inj y1
        subst hxy
        obtain ⟨m, hn, hl⟩ := I4.loc
        obtain ⟨u, r, l⟩ := hl j x v y2 hσ y4
        refine ⟨u, r, .inr ⟨relabel_free (env := X.env) y3, ?_⟩⟩
        rcases l with ⟨l, _⟩ | ⟨_, c, hc, hcell⟩
        · exact absurd l y5
        · refine ⟨c, ?_, hcell⟩
          obtain ⟨d, hd⟩ := Option.isSome_iff_exists.mp (chas x (PySem.mem_of_lookup y3))
          have := csub x d hd
          rw [hc] at this
          cases this
          exact hd
  · exact I4.cell x c (csub x c e)
  · show (lcS nt cs σ).length = N'.length
    unfold lcS
    rw [L.len]; simp
/-- out of the block -/
theorem lc_leave {σ2 : St} {H2 : Hp} (I : Inv X pins σ H s) (hf : ∀ b ∈ fp, FpOk X pins H b) (J : Inv (lcCx X N' scope s H C fp) [] σ2 H2 s') : Inv X pins σ H2 s' :=
  I.call' (ch := fp) J.os J.base J.hok J.bare fun b hb => by
    obtain ⟨f0, f1, f2, f3, f4, f5⟩ := hf b hb
    exact ⟨f3, f1, f4, f5⟩
end

/-! ### the tests of a clause -/
def PIfs (X : Cx) (ifs : List Expr) (t : TT) : Prop :=
  ∀ (pins : List (Addr × Obj)) (s : Shared) (σ : St) (H : Hp) (Q : Bool → Hp → Prop), Inv X pins σ H s → t σ H Q →
    wpAny (model X.prog X.w) X.A (forIn ifs true fun c r => if r = true then do let ok ← isTrue c X.env (eval c X.env); pure (ForInStep.yield ok) else pure (ForInStep.yield r)) (TP X pins σ Q) X.xe s
theorem pifs_one {X : Cx} {c : Expr} {t : TT} (h : PT X c t) : PIfs X [c] t := fun pins s σ H Q I hq => wpAny_tests_one (h pins s σ H Q I hq)

/-- [elt for target in iter if ..]: nt targets, cs the captured slots -/
def LCG (nt : Nat) (cs : List Nat) (g : TG) (tt : TT) (te : TE) (σ : St) (Q : VK) (J : It) (H1 : Hp) : Prop := ∀ l, H1 l = none → ∃ W : Nat → Nat → Hp → Prop, (∃ m, W 0 m (upd H1 l (.lst []))) ∧ ∀ i m H2, W i m H2 →
  (J.stop i H2 ∧ Q (.ref l) H2) ∨ (J.go i H2 ∧ ∃ N : Hp → Prop, (∀ H', N H' → ∃ m', m' < m ∧ W (i + 1) m' H') ∧ ∀ x H3, J.yld i H2 x H3 → g x (lcS nt cs σ) H3 fun σ2 H4 =>
    (σ2.length = nt + cs.length ∧ σ2.drop nt = (lcS nt cs σ).drop nt) ∧ tt σ2 H4 fun b H5 => if b = true then te σ2 H5 fun y H6 => ∃ xs, H6 l = some (.lst xs) ∧ xs.length < sizeLine ∧ N (upd H6 l (.lst (xs ++ [y]))) else N H5)
def tLC (nt : Nat) (cs : List Nat) (wi : TI) (g : TG) (tt : TT) (te : TE) : TE := fun σ H Q => wi σ H fun J H1 => LCG nt cs g tt te σ Q J H1

theorem lc_turn {prog : Program} {w : World} {A : Around} {R : Result → Shared → Prop} {s : Shared} {elt target iter : Expr} {ifs : List Expr} {scope : Scope} {pos : Pos} {it acc : Value} {env : Env} (I : Nat → Shared → Prop)
    (turn : ∀ n s, I n s → wpAny (model prog w) A (pyNext it) (fun r s₁ => match r with
      | none => R (.ok .next) s₁
      | some v => wpAny (model prog w) A (letOwnedTupleGo target it v) (fun _ s₁' => wpAny (model prog w) A (assign target env v) (fun _ s₂ =>
          wpAny (model prog w) A (forIn ifs true fun c r => if r = true then do let ok ← isTrue c env (eval c env); pure (ForInStep.yield ok) else pure (ForInStep.yield r)) (fun ok s₃ =>
            if ok = true then wpAny (model prog w) A (eval elt env) (fun x s₄ =>
              wpAny (model prog w) A (call (.builtin "list.append") [acc, x]) (fun _ s₅ => ∃ m, m < n ∧ I m s₅) (fun _ _ => False) s₄) (fun _ _ => False) s₃
            else ∃ m, m < n ∧ I m s₃) (fun _ _ => False) s₂) (fun _ _ => False) s₁') (fun _ _ => False) s₁) (fun _ _ => False) s)
    (n : Nat) (h : I n s) : codeAny (model prog w) A (.compLoop (.ListComp elt [⟨target, iter, ifs, 0⟩] scope pos) 0 it acc env) R s := by
  refine codeAny_loop rfl I (fun n s hI => ?_) n h
  show wpAny _ A ((compTurn (.ListComp elt [⟨target, iter, ifs, 0⟩] scope pos) 0 it acc env).onRaise (fun x => do noteFrame x env; theTreesLotGoes x)) _ _ s
  refine wpAny_noted ?_
  rw [compTurn_list]
  refine wpAny_bind (wpAny_standAt (wpAny_bind (wpAny_mono (turn n s hI) (fun r s₁ h₁ => ?_) fun _ _ h' => h'.elim)))
  cases r with
  | none => exact wpAny_pure h₁
  | some v =>
    refine wpAny_bind (wpAny_mono h₁ (fun _ s₁' h₁' => ?_) fun _ _ h' => h'.elim)
    refine wpAny_bind (wpAny_mono h₁' (fun _ s₂ h₂ => wpAny_bind (wpAny_mono h₂ (fun ok s₃ h₃ => ?_) fun _ _ h' => h'.elim)) fun _ _ h' => h'.elim)
    cases ok with
    | false => exact wpAny_pure ⟨rfl, h₃⟩
    | true =>
      exact wpAny_bind (wpAny_bind (wpAny_mono h₃ (fun x s₄ h₄ => wpAny_bind (wpAny_mono h₄ (fun _ s₅ h₅ => wpAny_pure (wpAny_pure ⟨rfl, h₅⟩)) fun _ _ h' => h'.elim)) fun _ _ h' => h'.elim))

section
variable {X : Cx} {elt target iter : Expr} {ifs : List Expr} {scope : Scope} {pos : Pos} {N' : List Str} {nt : Nat} {cs : List Nat} {wi : TI} {g : TG} {tt : TT} {te : TE}
theorem lc_core {use : Option (Value → Sem Unit)} {QQ : Value → Shared → Prop} {p2 : Pos} (hc : X.calm = true) (L : LcOk X scope N' nt cs) (hi : PI X target iter wi)
    (hg : ∀ s H C fp, PG (lcCx X N' scope s H C fp) target g) (ht : ∀ s H C fp, PIfs (lcCx X N' scope s H C fp) ifs tt) (he : ∀ s H C fp, PE (lcCx X N' scope s H C fp) elt te)
    {pins : List (Addr × Obj)} {s : Shared} {σ : St} {H : Hp} {Q : VK} (I : Inv X pins σ H s) (h : tLC nt cs wi g tt te σ H Q)
    (fin : ∀ (l : Addr) (H' : Hp) (s' : Shared) (C : Addr), Inv X pins σ H' s' → FpOk X pins H' C → (∃ m, s'.heap.Ns C m) → Q (.ref l) H' → compPost (model X.prog X.w) X.A X.xe use QQ (.ref l) C (.ok .next) s')
    (hs : ∀ x, foldedSetIterable iter X.env x = pure x := by intro _; rfl) :
    wpAny (model X.prog X.w) X.A (comprehension (.ListComp elt [⟨target, iter, ifs, 0⟩] scope pos) scope X.env p2 (newList []) false (eval iter X.env) use) QQ X.xe s := by
  have hcl : closureFor scope X.env = pure (clos X.env.cells scope.names []) := closure_eq fun x hx => by
    obtain ⟨c, e⟩ := I.ok.has x (L.fr x hx)
    rw [e]; rfl
  refine wpAny_comprehension_free (env := X.env) rfl hs hcl L.kind L.loc (thn (hi pins s σ H _ I h) fun v s1 h1 => thn h1 fun itv s2 h2 => ?_)
  obtain ⟨it, fp, tn, J, H1, e, I2, T, st2, f2, R⟩ := h2
  subst e
  refine wpAny_newObj_type ?_
  have hv : Vals [] ([] : List Value) := .nil
  have I3 := I2.lnew (t' := s2.toks) hv (Nat.zero_le _)
  have hfr : H1 s2.heap.objs.size = none := I2.fresh
  have ne3 : ∀ b ∈ fp, b ≠ s2.heap.objs.size := fun b hb z => by
    obtain ⟨o, e, _⟩ := T.obj _ _ st2 b hb
    have := Heap.lt_size e
    rw [z] at this
    exact Nat.lt_irrefl _ this
  have f3 : ∀ b ∈ fp, FpOk X pins (upd H1 s2.heap.objs.size (.lst [])) b := fun b hb => ⟨by rw [upd_ne (ne3 b hb)]; exact (f2 b hb).1, (f2 b hb).2⟩
  obtain ⟨W, ⟨m0, w0⟩, turn⟩ := R _ hfr
  refine wpAny_newFunctionEnv L.nocell (by intro y hy; simp at hy) (fun h4 hns hsb => ?_) L.kind
  dsimp only at hns hsb ⊢
  generalize hH3 : s2.heap.push { cls := .type "list", dict := none, data := .seq ([] : List Value).toArray } = h3 at hns hsb I3 ⊢
  have hsz3 : h3.objs.size = s2.heap.objs.size + 1 := by rw [← hH3, Heap.size_push]
  have up4 : ∀ b u, h3.get? b = some u → h4.get? b = some u := fun b u e => hsb.extBut b u (Nat.ne_of_lt (Heap.lt_size e)) (Heap.get?_push_of_some _ e)
  have fpo : ∀ b ∈ fp, b < h3.objs.size := fun b hb => by
    obtain ⟨o, e, _⟩ := T.obj _ _ st2 b hb
    exact Nat.lt_of_lt_of_le (Heap.lt_size e) (by rw [hsz3]; exact Nat.le_succ _)
  have up3 : ∀ b u, s2.heap.get? b = some u → h3.get? b = some u := fun b u e => hH3 ▸ Heap.get?_push_of_some _ e
  have J4 : Inv (lcCx X N' scope { s2 with heap := h3 } (upd H1 s2.heap.objs.size (.lst [])) h3.objs.size fp) [] (lcS nt cs σ) (upd H1 s2.heap.objs.size (.lst [])) { s2 with heap := h4, toks := s2.toks + ([] : List (Str × Value)).length } :=
    lc_enter (t' := s2.toks + ([] : List (Str × Value)).length) I3 L f3 (Nat.le_refl _) up4 (by simpa using hns) fpo
  have st4 : tn 0 h4 := T.keep _ _ _ st2 fun b hb o e => up4 b o (up3 b o e)
  generalize hs3 : ({ s2 with heap := h3 } : Shared) = s3 at I3 J4
  generalize hX' : lcCx X N' scope s3 (upd H1 s2.heap.objs.size (.lst [])) h3.objs.size fp = X' at J4
  have hg' : PG X' target g := hX' ▸ hg _ _ _ _
  have ht' : PIfs X' ifs tt := hX' ▸ ht _ _ _ _
  have he' : PE X' elt te := hX' ▸ he _ _ _ _
  have stat : ∀ {H' : Hp}, (∀ b ∈ fp, H' b = none) → ∀ b ∈ fp, FpOk X' [] H' b := fun hn b hb => by
    subst hX'
    refine ⟨hn b hb, Nat.ne_of_lt (fpo b hb), J4.ok.exfs b hb, .inl hb, (J4.ok.exf b hb).2, fun p hp => absurd (show p ∈ ([] : List (Addr × Obj)) from hp) (by simp)⟩
  have loop : codeAny (model X.prog X.w) X.A (.compLoop (.ListComp elt [⟨target, iter, ifs, 0⟩] scope pos) 0 (.ref it) (.ref s2.heap.objs.size) (compEnvC scope (clos X.env.cells scope.names []) h3.objs.size X.env))
      (compPost (model X.prog X.w) X.A X.xe use QQ (.ref s2.heap.objs.size) h3.objs.size) { s2 with heap := h4, toks := s2.toks + ([] : List (Str × Value)).length } := by
    have eA : X'.A = X.A := by subst hX'; rfl
    have eP : X'.prog = X.prog := by subst hX'; rfl
    have eW : X'.w = X.w := by subst hX'; rfl
    have eK : X'.K = X.K := by subst hX'; rfl
    have eC : X'.calm = true := by subst hX'; exact hc
    have eE : X'.env = compEnvC scope (clos X.env.cells scope.names []) h3.objs.size X.env := by subst hX'; rfl
    have eX : X'.xe = fun _ _ => False := by subst hX'; rfl
    refine lc_turn (fun n s' => ∃ i H', Inv X' [] (lcS nt cs σ) H' s' ∧ tn i s'.heap ∧ (∀ b ∈ fp, H' b = none) ∧ W i n H') ?_ m0 ⟨0, _, J4, st4, fun b hb => (f3 b hb).1, w0⟩
    rintro n s5 ⟨i, H5, J5, st5, fr5, w5⟩
    rcases turn i n H5 w5 with ⟨stop, qn⟩ | ⟨go, N, hN, step⟩
    · have d := T.done X' eP eW eK eC i [] s5 (lcS nt cs σ) H5 (fun _ _ => False) J5 (stat fr5) st5 stop
      rw [eA] at d
      refine thn d fun r s6 ⟨hr, J6⟩ => ?_
      subst hr
      have I6 : Inv X pins σ H5 s6 := by subst hX'; subst hs3; exact lc_leave I3 f3 J6
      refine fin _ H5 s6 h3.objs.size I6 ?_ ?_ qn
      · have hn : H5 h3.objs.size = none := by subst hX'; exact J6.free
        subst hs3
        exact I3.fpOk (Nat.le_refl _) hn
      · obtain ⟨m, hm, _⟩ := J6.loc
        subst hX'
        exact ⟨m, hm⟩
    · have d := T.item X' eP eW eK eC i [] s5 (lcS nt cs σ) H5 (fun _ _ => False) J5 (stat fr5) st5 go
      rw [eA] at d
      refine thn d fun r s6 ⟨u, hr, h6⟩ => ?_
      subst hr
      refine thn h6 fun _ s7 ⟨x, H7, J7, r7, y7, st7, fr7⟩ => ?_
      have J7' := J7.pinned (stat fr7) (T.obj _ _ st7)
      have a := hg' _ s7 (lcS nt cs σ) H7 x u _ J7' r7 (step x H7 y7)
      rw [eA, eP, eW, eE, eX] at a
      refine thn a fun _ s8 ⟨σ8, H8, J8, ⟨e8, d8⟩, q8⟩ => ?_
      have b := ht' _ s8 σ8 H8 _ J8 q8
      rw [eA, eP, eW, eE, eX] at b
      have again : ∀ {s9 : Shared} {H9 : Hp}, Inv X' ([] ++ pinsAt fp s7.heap) σ8 H9 s9 → N H9 → ∃ m, m < n ∧ ∃ i H', Inv X' [] (lcS nt cs σ) H' s9 ∧ tn i s9.heap ∧ (∀ b ∈ fp, H' b = none) ∧ W i m H' := fun {s9 H9} J9 n9 => by
        obtain ⟨m', hm, w9⟩ := hN H9 n9
        refine ⟨m', hm, i + 1, H9, ?_, T.keep _ _ _ st7 fun b hb o e => (J9.pin (b, o) (List.mem_append_right _ (List.mem_append_right _ (mem_pinsAt hb e)))).1, fun b hb => ?_, w9⟩
        · refine J9.unpinned.weak ?_ fun j v ej => ?_
          · rw [e8]; unfold lcS; simp
          · by_cases hj : j < nt
            · unfold lcS at ej
              rw [List.getElem?_append_left (by simpa using hj), List.getElem?_replicate] at ej
              split at ej <;> cases ej
            · have z := congrArg (fun l : St => l[j - nt]?) d8
              simp only [List.getElem?_drop] at z
              rw [show nt + (j - nt) = j by omega] at z
              rw [z]; exact ej
        · obtain ⟨o, e, _⟩ := T.obj _ _ st7 b hb
          exact (J9.pin (b, o) (List.mem_append_right _ (List.mem_append_right _ (mem_pinsAt hb e)))).2.1
      refine thn b fun ok s9 ⟨H9, J9, q9⟩ => ?_
      cases ok with
      | false =>
        rw [if_neg Bool.false_ne_true] at q9 ⊢
        exact again J9 q9
      | true =>
        rw [if_pos rfl] at q9 ⊢
        have c := he' _ s9 σ8 H9 _ J9 q9
        rw [eA, eP, eW, eE, eX] at c
        refine thn c fun y sA ⟨vy, HA, JA, ry, xs, hl, hz, nA⟩ => ?_
        have ap := mt_append (X := X') _ sA σ8 HA (.ref s2.heap.objs.size) [vy] (.ref s2.heap.objs.size) [y] (fun _ H' => N H') JA rfl (.cons ry .nil) ⟨_, xs, vy, rfl, rfl, hl, hz, nA⟩
        rw [eA, eP, eW, eX] at ap
        exact thn ap fun _ sB ⟨_, HB, JB, _, nB⟩ => again JB nB
  exact codeAny_compStart_list loop (T.self X.A 0 _ _ _ st4 loop)

/-- name = [elt for ..], the name a plain local on the same row -/
theorem ps_setLC {i : Nat} {y : Str} {py spos : Pos} (hN : X.N.Nodup) (hy : X.N[i]? = some y) (hx : Loc X.env.scope y) (hc : X.calm = true) (L : LcOk X scope N' nt cs) (hi : PI X target iter wi)
    (hg : ∀ s H C fp, PG (lcCx X N' scope s H C fp) target g) (ht : ∀ s H C fp, PIfs (lcCx X N' scope s H C fp) ifs tt) (he : ∀ s H C fp, PE (lcCx X N' scope s H C fp) elt te)
    (hsw : swapsWith (.ListComp elt [⟨target, iter, ifs, 0⟩] scope pos) (some (.Name y py)) spos.line X.env = pure true := by rfl)
    (hs : ∀ x, foldedSetIterable iter X.env x = pure x := by intro _; rfl) (hf : X.fn y = true ∨ X.env.scope.names.lookup y = some .local := by first | exact .inl rfl | exact .inr rfl | assumption) :
    PS X (.Assign [.Name y py] (.ListComp elt [⟨target, iter, ifs, 0⟩] scope pos) spos) (tAsg (tLC nt cs wi g tt te) (gName i)) := by
  intro pins s σ H D I h
  rw [exec_Assign_Name_used _ _ _ _ hsw]
  refine wpAny_bind (wpAny_standAt (wpAny_bind ?_))
  show wpAny _ X.A (do let _ ← comprehension (.ListComp elt [⟨target, iter, ifs, 0⟩] scope pos) scope X.env _ (newList []) false (eval iter X.env) (some (assign (.Name y py) X.env))) _ _ s
  refine wpAny_bind (thn (lc_core (QQ := fun _ s' => SP X pins D .next s') (use := some (assign (.Name y py) X.env)) hc L hi hg ht he I h (fun l H' s' C I' f hm q => ?_) hs) (fun _ s' hq => wpAny_pure (wpAny_pure hq)))
  show wpAny _ X.A (assign (.Name y py) X.env (.ref l)) _ _ _
  refine wpAny_assign_Name (store_ok2 I' hN hy hx (v := .ref l) rfl (fun s2 I2 ⟨a, hsb, ha⟩ => ?_) hf)
  obtain ⟨m, hm⟩ := hm
  obtain ⟨f0, f1, f2, f3, f4, f5⟩ := f
  have hCa : C ≠ a := by
    rcases ha with rfl | ha
    · exact f1
    · exact fun z => f4 y a ha z.symm
  refine ⟨m, hm.sameBut hsb hCa, fun h' hs' => ?_⟩
  exact ⟨_, H', I2.turned (t' := s2.toks) (fun b o hb e => hs'.extBut b o hb e) f0 f1 f3 f4 f5, q⟩
end
end L2

set_option Elab.async false
set_option linter.all false
set_option maxRecDepth 100000
set_option maxHeartbeats 4000000
/-! MY OWN ADDITIONS to the hand layer: isinstance, is, not -/
namespace L2
open PySem PySem.Spec PyProof.Rows
section
variable {X : Cx} {a b : Expr} {ta tb : TE} {pos : Pos}
theorem call_isi_bool_bool : CallR X (.builtin "isinstance") (fun xs H Q => ∃ x, xs = [.bl x, .ty "bool"] ∧ Q (.bl true) H) := by
  intro pins s σ H xs us Q I r h
  obtain ⟨x, rfl, q⟩ := h
  obtain ⟨u, v, rfl, rfl, rfl⟩ := vals2 r
  exact IsiPair.bool_bool ⟨.bl true, H, I, rfl, q⟩
/-- b is True, of bools -/
theorem op_isC : OpR X (compareOp .Is) (fun x y H Q => ∃ i j, x = .bl i ∧ y = .bl j ∧ Q (.bl (i == j)) H) := by
  intro pins s σ H x y v u Q I rx ry h
  obtain ⟨i, j, rfl, rfl, q⟩ := h
  cases rx
  cases ry
  refine wpAny_is_plain rfl (fin_bl I q ?_)
  cases i <;> cases j <;> rfl
end
end L2
namespace L2
open PySem PySem.Spec PyProof.Rows
theorem SqL.same {K : PySem.W.Frag} {H H' : Hp} {a : Addr} {xs : List V} (e : Same H H') (h : SqL K H a xs) : SqL K H' a xs := e.seq h
theorem SqT.same {K : PySem.W.Frag} {H H' : Hp} {a : Addr} {xs : List V} (e : Same H H') (h : SqT K H a xs) : SqT K H' a xs := by
  rcases h with (h | ⟨o, h⟩) | h
  · exact .inl (.inl (e _ _ h))
  · exact .inl (.inr ⟨o, e _ _ h⟩)
  · exact .inr h
theorem Same.upd {H : Hp} {l : Addr} {o : HO} (h : H l = none) : Same H (upd H l o) := fun b u e => by rw [upd_ne (ne_of_none e h)]; exact e
theorem Same.upd2 {H H' : Hp} {l : Addr} {o : HO} (s : Same H H') (h : H l = none) : Same H (L2.upd H' l o) := fun b u e => by rw [upd_ne (ne_of_none e h)]; exact s b u e
/-- a comprehension over a list, each turn's test and value known -/
theorem lc_list {K : PySem.W.Frag} {a : Addr} {xs : List V} {nt : Nat} {cs : List Nat} {σ : St} {g : TG} {tt : TT} {te : TE} {H1 : Hp} {Q : VK} (p : V → Bool) (f : V → V) (hl : SqL K H1 a xs) (hz : xs.length ≤ sizeLine)
    (hs : ∀ (i : Nat) x (H2 : Hp) (R : Bool → V → Hp → Prop), xs[i]? = some x → Same H1 H2 → (∀ H', Same H2 H' → p x = true → R true (f x) H') → (∀ H', Same H2 H' → p x = false → R false .non H') →
      g x (lcS nt cs σ) H2 fun σ2 H4 => (σ2.length = nt + cs.length ∧ σ2.drop nt = (lcS nt cs σ).drop nt) ∧ tt σ2 H4 fun b H5 => if b = true then te σ2 H5 fun y H6 => R true y H6 else R false .non H5)
    (hQ : ∀ l H', H1 l = none → Same H1 H' → H' l = some (.lst ((xs.filter p).map f)) → Q (.ref l) H') :
    LCG nt cs g tt te σ Q (Itl K a) H1 := by
  intro l hn
  refine ⟨fun i m H2 => m = xs.length - i ∧ i ≤ xs.length ∧ Same H1 H2 ∧ H2 l = some (.lst (((xs.take i).filter p).map f)), ⟨xs.length, by simp, Nat.zero_le _, Same.upd hn, upd_same⟩, ?_⟩
  rintro i m H2 ⟨rfl, hi, sm, hl2⟩
  have q : SqL K H2 a xs := sm.seq hl
  by_cases hlt : i < xs.length
  · refine .inr ⟨⟨xs, xs[i], q, by simp [hlt]⟩, fun H' => Same H1 H' ∧ H' l = some (.lst (((xs.take (i + 1)).filter p).map f)), fun H' ⟨s', h'⟩ => ⟨xs.length - (i + 1), by omega, rfl, hlt, s', h'⟩, fun x H3 y => ?_⟩
    obtain ⟨e, y⟩ := y
    subst e
    have hx := y xs q
    refine hs i x _ (fun b y H6 => match b with | true => ∃ zs, H6 l = some (.lst zs) ∧ zs.length < sizeLine ∧ Same H1 (upd H6 l (.lst (zs ++ [y]))) ∧ (upd H6 l (.lst (zs ++ [y]))) l = some (.lst (((xs.take (i + 1)).filter p).map f)) | false => Same H1 H6 ∧ H6 l = some (.lst (((xs.take (i + 1)).filter p).map f))) hx sm (fun H' s' hp => ⟨_, s' _ _ hl2, ?_, (sm.trans s').upd2 hn, ?_⟩) (fun H' s' hp => ⟨sm.trans s', ?_⟩)
    · rw [List.length_map]
      have h1 : ((xs.take i).filter p).length ≤ (xs.take i).length := List.length_filter_le _ _
      have h2 : (xs.take i).length ≤ i := by rw [List.length_take]; exact Nat.min_le_left _ _
      omega
    · rw [upd_same, take_succ_filter p xs i x hx, if_pos hp, List.map_append]; rfl
    · rw [take_succ_filter p xs i x hx, if_neg (by rw [hp]; exact Bool.false_ne_true), List.append_nil]
      exact s' _ _ hl2
  · have e : i = xs.length := by omega
    subst e
    rw [List.take_length] at hl2
    exact .inl ⟨⟨xs, q, Nat.le_refl _⟩, hQ l H2 hn sm hl2⟩
end L2
namespace L2
open PySem
theorem atI_ex {α : Type} {xs : List α} {i : Int} (h0 : 0 ≤ i) (h1 : i < xs.length) : ∃ v ∈ xs, atI xs i = some v ∧ xs[i.toNat]? = some v := by
  have hi : i.toNat < xs.length := by omega
  have e : i = ((i.toNat : Nat) : Int) := by omega
  refine ⟨xs[i.toNat], List.getElem_mem _, ?_, by simp [hi]⟩
  have := atI_nat (xs := xs) (j := i.toNat) (v := xs[i.toNat]) (by simp [hi])
  rw [← e] at this
  exact this
theorem atI_neg1 {α : Type} {xs : List α} {v : α} (h : xs.getLast? = some v) : atI xs (-1) = some v := by
  obtain ⟨ys, rfl⟩ := List.getLast?_eq_some_iff.mp h
  exact atI_last ys v
theorem big2000 {n : Nat} (h : n ≤ 2000) : n ≤ sizeLine := Nat.le_trans h (by rw [sizeLine_eq]; decide)
end L2
namespace L2
open PySem
theorem ite_d {c : Prop} {d : Bool} {A B : Prop} [Decidable c] (e : d = decide c) (h1 : c → A) (h2 : ¬ c → B) : if d = true then A else B := by
  subst e
  by_cases h : c
  · rw [decide_eq_true h]; exact iteT (h1 h)
  · rw [decide_eq_false h]; exact iteF (h2 h)
theorem ite_n {c : Prop} {d : Bool} {A B : Prop} [Decidable c] (e : d = !decide c) (h1 : ¬ c → A) (h2 : c → B) : if d = true then A else B := by
  subst e
  by_cases h : c
  · rw [decide_eq_true h]; exact iteF (h2 h)
  · rw [decide_eq_false h]; exact iteT (h1 h)
theorem str_dec {x y : Str} {a b : List Nat} (hx : x = T a) (hy : y = T b) : decide (V.str x = V.str y) = decide (a = b) := by
  rw [hx, hy, T_decide]
end L2
namespace L2
open PySem
/-- a statement whose ways meet again: what holds where they meet -/
theorem seq_join {t u : TS} {D : Ends} {σ : St} {H : Hp} (P : St → Hp → Prop) (h1 : ∀ N : St → Hp → Prop, (∀ σ' H', P σ' H' → N σ' H') → t { D with nx := N } σ H) (h2 : ∀ σ' H', P σ' H' → u D σ' H') : tSeq t u D σ H := h1 _ h2
end L2

set_option Elab.async false
set_option linter.all false
set_option maxRecDepth 100000
set_option maxHeartbeats 4000000
/-! MY OWN ADDITIONS to the hand layer: walks that hand out tuples (enumerate, zip) -/
namespace L2
open PySem PySem.Spec PyProof.Rows
section
variable {X : Cx} {pins : List (Addr × Obj)} {σ : St} {H : Hp} {s : Shared} {h' : Heap} {t' : Nat} {wr : List Addr}
/-- several untracked records of ours have turned -/
theorem Inv.turns (I : Inv X pins σ H s) (hf : ∀ b ∈ wr, FpOk X pins H b) (k : ∀ b o, b ∉ wr → s.heap.get? b = some o → h'.get? b = some o) : Inv X pins σ H { s with heap := h', toks := t' } := by
  have nw : ∀ b u, H b = some u → b ∉ wr := fun b u e z => by have := (hf b z).1; rw [e] at this; cases this
  have nL : X.env.locals ∉ wr := fun z => (hf _ z).2.1 rfl
  refine I.step (g' := s.gens) (d' := s.drawn) (ch := wr) (fun b hb => ?_) (fun b o _ _ hc e _ => k b o hc e) (fun b o _ _ hc e _ => ⟨o.slots, k b o hc e⟩) (fun _ _ _ _ n => n)
    (fun b o hc e => ⟨o, k b o hc e⟩) (fun _ _ e => e) (fun _ _ _ e => e) (fun b ps e => ⟨#[], by rw [e]; simp⟩) (fun m hm => ?_) (fun b u e => ?_) I.bare
  · obtain ⟨f0, f1, f2, f3, f4, f5⟩ := hf b hb
    exact ⟨f3, f1, f4, f5⟩
  · obtain ⟨o, es, ep, ho, r⟩ := hm
    exact ⟨o, es, ep, k _ o nL ho, r⟩
  · refine (I.hok b u e).stay (fun c v hc q => k c v ?_ q) (fun _ q => q) fun _ _ q => q
    rcases hc with z | z
    · rw [z]; exact nw b u e
    · exact nw c _ z
end
section
variable {X : Cx} {e : Expr} {ta : TA} {elts : List Expr} {kk : Nat} {tp p pos : Pos}
end
end L2

set_option Elab.async false
set_option linter.all false
set_option maxRecDepth 100000
set_option maxHeartbeats 4000000
/-! MY OWN ADDITIONS to the hand layer: ranges as values, downward ranges, the least of three -/
namespace L2
open PySem PySem.Spec PyProof.Rows
/-- a range object of any step -/
def RngO (r : Addr) (a b c : Int) : HO := .ext fun h => ∃ t u v, IsRange h r a b c t u v
section
variable {X : Cx} {pins : List (Addr × Obj)} {σ : St} {H : Hp} {s : Shared}
theorem Inv.rng {a b c : Int} {t u v : Tok} {t' : Nat} (I : Inv X pins σ H s) : Inv X pins σ (upd H s.heap.objs.size (RngO s.heap.objs.size a b c)) { s with heap := s.heap.push { cls := .type "range", data := .fields #[.int a t, .int b u, .int c v] }, toks := t' } :=
  I.laid (fun _ _ q => Heap.get?_push_of_some _ q) (Nat.le_refl _) ⟨⟨t, u, v, Heap.get?_push_size _ rfl⟩, ⟨_, Heap.get?_push_size _ rfl⟩, fun h1 h2 ⟨t1, u1, v1, z⟩ k => ⟨t1, u1, v1, k _ z⟩⟩
end
section
variable {X : Cx} {e1 e2 e3 : Expr} {ta : TA} {p pos : Pos} {tg : Expr}
end
end L2
namespace L2
open PySem PySem.Spec PyProof.Rows
section
variable {X : Cx}
end
end L2
namespace L2
open PySem
end L2

set_option Elab.async false
set_option linter.all false
set_option maxRecDepth 100000
set_option maxHeartbeats 4000000
/-! MY OWN ADDITIONS to the hand layer: two texts walked side by side -/
namespace L2
open PySem PySem.Spec PyProof.Rows
structure ZipAp (z TI TO i1 i2 : Addr) (fp1 fp2 : List Addr) : Prop where
  TIz : TI ≠ z
  TOz : TO ≠ z
  i1z : i1 ≠ z
  i2z : i2 ≠ z
  TITO : TI ≠ TO
  TIi1 : TI ≠ i1
  TIi2 : TI ≠ i2
  TOi1 : TO ≠ i1
  TOi2 : TO ≠ i2
  i12 : i1 ≠ i2
  m1 : i1 ∈ fp1
  m2 : i2 ∈ fp2
  f1 : ∀ b ∈ fp1, b ≠ z ∧ b ≠ TO ∧ b ≠ i2
  f2 : ∀ b ∈ fp2, b ≠ z ∧ b ≠ TO ∧ b ≠ i1
section
variable {prog : Program} {w : World} {A : Around} {E : Value → Shared → Prop} {s : Shared}
end
section
variable {prog : Program} {w : World} {A : Around} {E : Value → Shared → Prop} {s : Shared}
end
section
variable {X : Cx} {e1 e2 : Expr} {ta : TA} {elts : List Expr} {kk : Nat} {tp p pos : Pos}
end
end L2

set_option Elab.async false
set_option linter.all false
set_option maxRecDepth 100000
set_option maxHeartbeats 4000000
/-! MY OWN ADDITIONS to the hand layer: list(reversed(list)) -/
namespace L2
open PySem PySem.Spec PyProof.Rows
section
variable {prog : Program} {w : World} {A : Around} {E : Value → Shared → Prop} {s : Shared}
end
section
variable {X : Cx} {pins : List (Addr × Obj)} {σ : St} {H : Hp} {s : Shared} {h' : Heap} {t' : Nat} {wr : List Addr}
end
section
variable {X : Cx} {e1 : Expr} {ta : TA} {p pos p2 pos2 : Pos}
end
end L2

namespace L2
open PySem
/-- a plain name is given a written thing, another name's thing -/
theorem asg_c {i : Nat} {v : V} {u : TS} {D : Ends} {σ : St} {H : Hp} (h : u D (σ.set i (some v)) H) : tSeq (tAsg (tC v) (gName i)) u D σ H := h
theorem asg_v {i j : Nat} {v : V} {u : TS} {D : Ends} {σ : St} {H : Hp} (e : σ[j]? = some (some v)) (h : u D (σ.set i (some v)) H) : tSeq (tAsg (tVar j) (gName i)) u D σ H := ⟨v, e, h⟩
/-- while, by a word and a measure -/
theorem while_by2 {c : TT} {tb : TS} {D : Ends} {σ : St} {H : Hp} (Pv : St → Hp → Prop) (μ : St → Hp → Nat) (h0 : Pv σ H)
    (hs : ∀ m σ H, m = μ σ H → Pv σ H → c σ H fun b H1 => if b = true then ∃ N : St → Hp → Prop, (∀ σ' H', N σ' H' → ∃ m', m' < m ∧ m' = μ σ' H' ∧ Pv σ' H') ∧ tb { D with nx := N, ct := N, bk := D.nx } σ H1 else D.nx σ H1) : tWhile c tb D σ H :=
  ⟨fun m σ H => m = μ σ H ∧ Pv σ H, ⟨_, rfl, h0⟩, fun m σ H h => hs m σ H h.1 h.2⟩
theorem while_go {tb : TS} {D : Ends} {σ : St} {H : Hp} {Pv : St → Hp → Prop} {μ : St → Hp → Nat} {m : Nat}
    (h : tb { D with nx := fun σ' H' => Pv σ' H' ∧ μ σ' H' < m, ct := fun σ' H' => Pv σ' H' ∧ μ σ' H' < m, bk := D.nx } σ H) :
    ∃ N : St → Hp → Prop, (∀ σ' H', N σ' H' → ∃ m', m' < m ∧ m' = μ σ' H' ∧ Pv σ' H') ∧ tb { D with nx := N, ct := N, bk := D.nx } σ H := ⟨_, fun _ _ h => ⟨_, h.2, rfl, h.1⟩, h⟩
theorem cond_and {t1 t2 : TE} {A B : Hp → Prop} {σ : St} {H : Hp} {b1 b2 : Bool} (h1 : ∀ Q : VK, Q (.bl b1) H → t1 σ H Q) (h2 : b1 = true → ∀ Q : VK, Q (.bl b2) H → t2 σ H Q) (hA : b1 = true → b2 = true → A H) (hB : ¬ (b1 = true ∧ b2 = true) → B H) :
    tAnd (tTest t1) (tTest t2) σ H fun b H1 => if b = true then A H1 else B H1 := by
  refine h1 _ ⟨b1, rfl, ?_⟩
  cases b1 with
  | false => exact iteF (iteF (hB (fun h => Bool.false_ne_true h.1)))
  | true =>
    refine iteT (h2 rfl _ ⟨b2, rfl, ?_⟩)
    cases b2 with
    | false => exact iteF (hB (fun h => Bool.false_ne_true h.2))
    | true => exact iteT (hA rfl rfl)
end L2

set_option Elab.async false
set_option linter.all false
set_option maxRecDepth 100000
set_option maxHeartbeats 4000000
/-! MY OWN ADDITIONS to the hand layer: data, whole; what stands in the slots, without the heap -/
namespace L2
open PySem PySem.Spec PyProof.Rows
inductive D where
  | non | bl (b : Bool) | int (i : Int) | str (l : List Nat) | lst (xs : List D) | tup (xs : List D)
instance : Inhabited D := ⟨.non⟩
mutual
def D.beq : D → D → Bool
  | .non, .non => true
  | .bl a, .bl b => a == b
  | .int a, .int b => a == b
  | .str a, .str b => a == b
  | .lst a, .lst b => D.beqs a b
  | .tup a, .tup b => D.beqs a b
  | _, _ => false
def D.beqs : List D → List D → Bool
  | [], [] => true
  | a :: x, b :: y => a.beq b && D.beqs x y
  | _, _ => false
end
mutual
theorem D.beq_iff : ∀ a b : D, a.beq b = true ↔ a = b
  | .non, b => by cases b <;> simp [D.beq]
  | .bl _, b => by cases b <;> simp [D.beq]
  | .int _, b => by cases b <;> simp [D.beq]
  | .str _, b => by cases b <;> simp [D.beq]
  | .lst a, b => by cases b <;> simp [D.beq, D.beqs_iff a]
  | .tup a, b => by cases b <;> simp [D.beq, D.beqs_iff a]
theorem D.beqs_iff : ∀ a b : List D, D.beqs a b = true ↔ a = b
  | [], b => by cases b <;> simp [D.beqs]
  | a :: x, b => by cases b <;> simp [D.beqs, D.beq_iff a, D.beqs_iff x]
end
instance : DecidableEq D := fun a b => decidable_of_iff _ (D.beq_iff a b)
mutual
/-- no truth in it -/
def D.nb : D → Bool
  | .bl _ => false
  | .lst a => D.nbs a
  | .tup a => D.nbs a
  | _ => true
def D.nbs : List D → Bool
  | [] => true
  | a :: x => a.nb && D.nbs x
end

/-! ### data as it lies -/
section
variable (K : PySem.W.Frag) (H : Hp)
mutual
def Rep : D → V → Prop
  | .non, v => v = .non
  | .bl b, v => v = .bl b
  | .int i, v => v = .int i
  | .str l, v => v = .str (T l) ∧ ∀ c ∈ l, c < 128
  | .lst ds, v => ∃ p xs, v = .ref p ∧ SqL K H p xs ∧ Reps ds xs
  | .tup ds, v => ∃ p xs, v = .ref p ∧ SqT K H p xs ∧ Reps ds xs
def Reps : List D → List V → Prop
  | [], xs => xs = []
  | d :: ds, xs => ∃ x r, xs = x :: r ∧ Rep d x ∧ Reps ds r
end
end
section
variable {K : PySem.W.Frag} {H H' : Hp}
mutual
theorem Rep.mono (s : Same H H') : ∀ {d : D} {v : V}, Rep K H d v → Rep K H' d v
  | .non, _, h => by simpa [Rep] using h
  | .bl _, _, h => by simpa [Rep] using h
  | .int _, _, h => by simpa [Rep] using h
  | .str _, _, h => by simpa [Rep] using h
  | .lst ds, _, h => by
    rw [Rep] at h ⊢
    obtain ⟨p, xs, e, q, r⟩ := h
    exact ⟨p, xs, e, SqL.same s q, Reps.mono s r⟩
  | .tup ds, _, h => by
    rw [Rep] at h ⊢
    obtain ⟨p, xs, e, q, r⟩ := h
    exact ⟨p, xs, e, SqT.same s q, Reps.mono s r⟩
theorem Reps.mono (s : Same H H') : ∀ {ds : List D} {xs : List V}, Reps K H ds xs → Reps K H' ds xs
  | [], _, h => by simpa [Reps] using h
  | d :: ds, _, h => by
    rw [Reps] at h ⊢
    obtain ⟨x, r, e, a, b⟩ := h
    exact ⟨x, r, e, Rep.mono s a, Reps.mono s b⟩
end
theorem Reps.nil : Reps K H [] [] := by rw [Reps]
theorem Reps.cons {d : D} {ds : List D} {x : V} {xs : List V} (a : Rep K H d x) (b : Reps K H ds xs) : Reps K H (d :: ds) (x :: xs) := by rw [Reps]; exact ⟨x, xs, rfl, a, b⟩
theorem Reps.length : ∀ {ds : List D} {xs : List V}, Reps K H ds xs → ds.length = xs.length
  | [], _, h => by rw [Reps] at h; subst h; rfl
  | d :: ds, _, h => by
    rw [Reps] at h
    obtain ⟨x, r, rfl, _, b⟩ := h
    simp [b.length]
theorem Reps.get : ∀ {ds : List D} {xs : List V} {i : Nat} {x : V}, Reps K H ds xs → xs[i]? = some x → ∃ d, ds[i]? = some d ∧ Rep K H d x
  | [], _, _, _, h, e => by rw [Reps] at h; subst h; simp at e
  | d :: ds, _, 0, _, h, e => by
    rw [Reps] at h
    obtain ⟨y, r, rfl, a, _⟩ := h
    cases e
    exact ⟨d, rfl, a⟩
  | d :: ds, _, i + 1, _, h, e => by
    rw [Reps] at h
    obtain ⟨y, r, rfl, _, b⟩ := h
    exact Reps.get (i := i) b e
theorem Reps.get' : ∀ {ds : List D} {xs : List V} {i : Nat} {d : D}, Reps K H ds xs → ds[i]? = some d → ∃ x, xs[i]? = some x ∧ Rep K H d x := fun {ds xs i d} h e => by
  have hl := h.length
  have hi := (List.getElem?_eq_some_iff.mp e).1
  obtain ⟨d', e', r⟩ := h.get (i := i) (x := xs[i]'(by omega)) (List.getElem?_eq_getElem _)
  rw [e] at e'; cases e'
  exact ⟨_, List.getElem?_eq_getElem _, r⟩
theorem Reps.append : ∀ {ds es : List D} {xs ys : List V}, Reps K H ds xs → Reps K H es ys → Reps K H (ds ++ es) (xs ++ ys)
  | [], _, _, _, h, h2 => by rw [Reps] at h; subst h; exact h2
  | d :: ds, _, _, _, h, h2 => by
    rw [Reps] at h
    obtain ⟨y, r, rfl, a, b⟩ := h
    exact Reps.cons a (Reps.append b h2)
theorem Reps.snoc {ds : List D} {xs : List V} {d : D} {x : V} (h : Reps K H ds xs) (a : Rep K H d x) : Reps K H (ds ++ [d]) (xs ++ [x]) := h.append (.cons a .nil)
theorem Reps.drop : ∀ (n : Nat) {ds : List D} {xs : List V}, Reps K H ds xs → Reps K H (ds.drop n) (xs.drop n)
  | 0, _, _, h => h
  | n + 1, [], _, h => by rw [Reps] at h; subst h; exact Reps.nil
  | n + 1, d :: ds, _, h => by
    rw [Reps] at h
    obtain ⟨y, r, rfl, _, b⟩ := h
    exact Reps.drop n b
theorem Reps.take : ∀ (n : Nat) {ds : List D} {xs : List V}, Reps K H ds xs → Reps K H (ds.take n) (xs.take n)
  | 0, _, _, h => Reps.nil
  | n + 1, [], _, h => by rw [Reps] at h; subst h; exact Reps.nil
  | n + 1, d :: ds, _, h => by
    rw [Reps] at h
    obtain ⟨y, r, rfl, a, b⟩ := h
    exact Reps.cons a (Reps.take n b)
theorem Reps.set {d : D} {x : V} (a : Rep K H d x) : ∀ (n : Nat) {ds : List D} {xs : List V}, Reps K H ds xs → Reps K H (ds.set n d) (xs.set n x)
  | _, [], _, h => by rw [Reps] at h; subst h; exact Reps.nil
  | 0, e :: ds, _, h => by
    rw [Reps] at h
    obtain ⟨y, r, rfl, _, b⟩ := h
    exact Reps.cons a b
  | n + 1, e :: ds, _, h => by
    rw [Reps] at h
    obtain ⟨y, r, rfl, c, b⟩ := h
    exact Reps.cons c (Reps.set a n b)
theorem Reps.reverse : ∀ {ds : List D} {xs : List V}, Reps K H ds xs → Reps K H ds.reverse xs.reverse
  | [], _, h => by rw [Reps] at h; subst h; exact Reps.nil
  | d :: ds, _, h => by
    rw [Reps] at h
    obtain ⟨y, r, rfl, a, b⟩ := h
    rw [List.reverse_cons, List.reverse_cons]
    exact (Reps.reverse b).snoc a
theorem Rep.lst {ds : List D} {p : Addr} {xs : List V} (q : SqL K H p xs) (r : Reps K H ds xs) : Rep K H (.lst ds) (.ref p) := by rw [Rep]; exact ⟨p, xs, rfl, q, r⟩
theorem Rep.tup {ds : List D} {p : Addr} {xs : List V} (q : SqT K H p xs) (r : Reps K H ds xs) : Rep K H (.tup ds) (.ref p) := by rw [Rep]; exact ⟨p, xs, rfl, q, r⟩
theorem Rep.int {i : Int} : Rep K H (.int i) (.int i) := by rw [Rep]
theorem Rep.bl {b : Bool} : Rep K H (.bl b) (.bl b) := by rw [Rep]
theorem Rep.str {l : List Nat} (h : ∀ c ∈ l, c < 128) : Rep K H (.str l) (.str (T l)) := by rw [Rep]; exact ⟨rfl, h⟩
theorem Rep.non : Rep K H .non .non := by rw [Rep]
theorem Rep.of_int {i : Int} {v : V} (h : Rep K H (.int i) v) : v = .int i := by rw [Rep] at h; exact h
theorem Rep.of_bl {b : Bool} {v : V} (h : Rep K H (.bl b) v) : v = .bl b := by rw [Rep] at h; exact h
theorem Rep.of_str {l : List Nat} {v : V} (h : Rep K H (.str l) v) : v = .str (T l) := by rw [Rep] at h; exact h.1
theorem Rep.asc {l : List Nat} {v : V} (h : Rep K H (.str l) v) : ∀ c ∈ l, c < 128 := by rw [Rep] at h; exact h.2
theorem Rep.of_non {v : V} (h : Rep K H .non v) : v = .non := by rw [Rep] at h; exact h
theorem Rep.of_lst {ds : List D} {v : V} (h : Rep K H (.lst ds) v) : ∃ p xs, v = .ref p ∧ SqL K H p xs ∧ Reps K H ds xs := by rw [Rep] at h; exact h
theorem Rep.of_tup {ds : List D} {v : V} (h : Rep K H (.tup ds) v) : ∃ p xs, v = .ref p ∧ SqT K H p xs ∧ Reps K H ds xs := by rw [Rep] at h; exact h
theorem Reps.ints {p : Addr} : ∀ (ns : List Int), Reps K H (ns.map D.int) (ns.map V.int)
  | [] => Reps.nil
  | n :: ns => Reps.cons Rep.int (Reps.ints (p := p) ns)
end

/-! ### what a def holds: G, H₀ the frozen part and the heap at its entry; F, H now -/
structure Ext (G H₀ F H : Hp) : Prop where
  gf : Same G F
  fh : Same F H
  hh : Same H₀ H
  no : ∀ b o, H₀ b = some o → F b = G b
theorem Ext.refl {G H : Hp} (s : Same G H) : Ext G H G H := ⟨Same.refl _, s, Same.refl _, fun _ _ _ => rfl⟩
theorem Ext.trans {G H F1 H1 F2 H2 : Hp} (a : Ext G H F1 H1) (b : Ext F1 H1 F2 H2) : Ext G H F2 H2 :=
  ⟨a.gf.trans b.gf, b.fh, a.hh.trans b.hh, fun c o e => (b.no c o (a.hh c o e)).trans (a.no c o e)⟩
/-- a new thing, frozen -/
theorem Ext.newF {G H₀ F H : Hp} (x : Ext G H₀ F H) {p : Addr} {o : HO} (hp : H p = none) : Ext G H₀ (upd F p o) (upd H p o) := by
  have fp : F p = none := x.fh.free hp
  refine ⟨x.gf.trans (Same.upd fp), fun b u e => ?_, x.hh.trans (Same.upd hp), fun b u e => ?_⟩
  · by_cases hb : b = p
    · subst hb; rw [upd_same] at e ⊢; exact e
    · rw [upd_ne hb] at e ⊢; exact x.fh b u e
  · have hb : b ≠ p := fun z => by subst z; have := x.hh b u e; rw [hp] at this; cases this
    rw [upd_ne hb]; exact x.no b u e
/-- a new thing, ours alone -/
theorem Ext.newO {G H₀ F H : Hp} (x : Ext G H₀ F H) {p : Addr} {o : HO} (hp : H p = none) : Ext G H₀ F (upd H p o) :=
  ⟨x.gf, x.fh.trans (Same.upd hp), x.hh.trans (Same.upd hp), x.no⟩
/-- a thing of ours is changed -/
theorem Ext.write {G H₀ F H : Hp} (x : Ext G H₀ F H) {p : Addr} {o : HO} (fp : F p = none) (hp : H₀ p = none) : Ext G H₀ F (upd H p o) :=
  ⟨x.gf, fun b u e => by rw [upd_ne (ne_of_none e fp)]; exact x.fh b u e, fun b u e => by rw [upd_ne (ne_of_none e hp)]; exact x.hh b u e, x.no⟩
/-- a thing of ours is frozen -/
theorem Ext.freeze {G H₀ F H : Hp} (x : Ext G H₀ F H) {p : Addr} {o : HO} (fp : F p = none) (hp : H₀ p = none) (e : H p = some o) : Ext G H₀ (upd F p o) H := by
  refine ⟨x.gf.trans (Same.upd fp), fun b u q => ?_, x.hh, fun b u q => ?_⟩
  · by_cases hb : b = p
    · subst hb; rw [upd_same] at q; cases q; exact e
    · rw [upd_ne hb] at q; exact x.fh b u q
  · rw [upd_ne (ne_of_none q hp)]; exact x.no b u q

/-- a slot: nothing known; a frozen thing; a list of ours; a list of lists of ours -/
inductive Sl where
  | un | d (x : D) | o (p : Addr) (xs : List D) | oo (p : Addr) (qs : List (Addr × List D))
def Sl.ads : Sl → List Addr
  | .un => [] | .d _ => [] | .o p _ => [p] | .oo p qs => p :: qs.map (·.1)
/-- a list of ours at p -/
def OwnL (K : PySem.W.Frag) (H₀ F H : Hp) (p : Addr) (xs : List D) : Prop := H₀ p = none ∧ F p = none ∧ ∃ vs, H p = some (.lst vs) ∧ Reps K F xs vs
def SlOk (K : PySem.W.Frag) (H₀ F H : Hp) (ov : Option V) : Sl → Prop
  | .un => True
  | .d x => ∃ v, ov = some v ∧ Rep K F x v
  | .o p xs => ov = some (.ref p) ∧ OwnL K H₀ F H p xs
  | .oo p qs => ov = some (.ref p) ∧ H₀ p = none ∧ F p = none ∧ H p = some (.lst (qs.map fun q => V.ref q.1)) ∧ ∀ q ∈ qs, OwnL K H₀ F H q.1 q.2
/-- the state: G, H₀ at the entry; L what is known to be frozen -/
structure Sat (K : PySem.W.Frag) (G H₀ L F H : Hp) (σ : St) (ss : List Sl) : Prop where
  ext : Ext G H₀ F H
  fl : Same L F
  len : σ.length = ss.length
  ok : ∀ (i : Nat) s, ss[i]? = some s → SlOk K H₀ F H (σ.getD i none) s
  nd : ∀ (i : Nat) s, ss[i]? = some s → s.ads.Nodup
  ne : ∀ (i j : Nat) s s', i ≠ j → ss[i]? = some s → ss[j]? = some s' → ∀ p ∈ s.ads, p ∉ s'.ads
section
variable {K : PySem.W.Frag} {H₀ F H F' H' : Hp}
theorem OwnL.ext2 {p : Addr} {xs : List D} (h : OwnL K H₀ F H p xs) (e : Ext F H F' H') : OwnL K H₀ F' H' p xs := by
  obtain ⟨h0, fp, vs, hp, r⟩ := h
  exact ⟨h0, (e.no p _ hp).trans fp, vs, e.hh p _ hp, r.mono e.gf⟩
theorem SlOk.ext2 {ov : Option V} {s : Sl} (h : SlOk K H₀ F H ov s) (e : Ext F H F' H') : SlOk K H₀ F' H' ov s := by
  cases s with
  | un => trivial
  | d x => obtain ⟨v, ev, r⟩ := h; exact ⟨v, ev, r.mono e.gf⟩
  | o p xs => exact ⟨h.1, h.2.ext2 e⟩
  | oo p qs =>
    obtain ⟨ev, h0, fp, hp, hq⟩ := h
    exact ⟨ev, h0, (e.no p _ hp).trans fp, e.hh p _ hp, fun q hm => (hq q hm).ext2 e⟩
theorem OwnL.updNe {p a : Addr} {o : HO} {xs : List D} (h : OwnL K H₀ F H p xs) (hn : p ≠ a) : OwnL K H₀ F (upd H a o) p xs := by
  obtain ⟨h0, fp, vs, hp, r⟩ := h
  exact ⟨h0, fp, vs, by rw [upd_ne hn]; exact hp, r⟩
/-- another one's list is changed -/
theorem SlOk.updNe {ov : Option V} {s : Sl} {a : Addr} {o : HO} (h : SlOk K H₀ F H ov s) (hn : a ∉ s.ads) : SlOk K H₀ F (upd H a o) ov s := by
  cases s with
  | un => trivial
  | d x => exact h
  | o p xs => exact ⟨h.1, h.2.updNe fun z => hn (by simp [Sl.ads, z])⟩
  | oo p qs =>
    obtain ⟨ev, h0, fp, hp, hq⟩ := h
    refine ⟨ev, h0, fp, by rw [upd_ne fun z => hn (by simp [Sl.ads, z])]; exact hp, fun q hm => (hq q hm).updNe fun z => hn ?_⟩
    rw [← z]
    exact List.mem_cons_of_mem _ (List.mem_map_of_mem hm)
/-- .. is frozen -/
theorem OwnL.frz {p a : Addr} {o : HO} {xs : List D} (h : OwnL K H₀ F H p xs) (fa : F a = none) (hn : p ≠ a) : OwnL K H₀ (upd F a o) H p xs := by
  obtain ⟨h0, fp, vs, hp, r⟩ := h
  exact ⟨h0, by rw [upd_ne hn]; exact fp, vs, hp, r.mono (Same.upd fa)⟩
theorem SlOk.frz {ov : Option V} {s : Sl} {a : Addr} {o : HO} (h : SlOk K H₀ F H ov s) (fa : F a = none) (hn : a ∉ s.ads) : SlOk K H₀ (upd F a o) H ov s := by
  cases s with
  | un => trivial
  | d x => obtain ⟨v, ev, r⟩ := h; exact ⟨v, ev, r.mono (Same.upd fa)⟩
  | o p xs => exact ⟨h.1, h.2.frz fa fun z => hn (by simp [Sl.ads, z])⟩
  | oo p qs =>
    obtain ⟨ev, h0, fp, hp, hq⟩ := h
    refine ⟨ev, h0, by rw [upd_ne fun z => hn (by simp [Sl.ads, z])]; exact fp, hp, fun q hm => (hq q hm).frz fa fun z => hn ?_⟩
    rw [← z]
    exact List.mem_cons_of_mem _ (List.mem_map_of_mem hm)
/-- what is ours is there -/
theorem SlOk.live {ov : Option V} {s : Sl} (h : SlOk K H₀ F H ov s) {p : Addr} (hp : p ∈ s.ads) : H p ≠ none := by
  cases s with
  | un => simp [Sl.ads] at hp
  | d x => simp [Sl.ads] at hp
  | o q xs =>
    obtain ⟨_, _, _, vs, hq, _⟩ := h
    simp [Sl.ads] at hp; subst hp; rw [hq]; simp
  | oo q qs =>
    obtain ⟨ev, h0, fp, hq, hqs⟩ := h
    rcases List.mem_cons.mp hp with rfl | hp
    · rw [hq]; simp
    · obtain ⟨r, hr, rfl⟩ := List.mem_map.mp hp
      obtain ⟨_, _, vs, hv, _⟩ := hqs r hr
      rw [hv]; simp
end
end L2

set_option Elab.async false
set_option linter.all false
set_option maxRecDepth 100000
set_option maxHeartbeats 4000000
namespace L2
open PySem PySem.Spec PyProof.Rows
section
variable {K : PySem.W.Frag} {G H₀ L F H F' H' : Hp} {σ : St} {ss : List Sl}
theorem Sat.ext2 (S : Sat K G H₀ L F H σ ss) (e : Ext F H F' H') : Sat K G H₀ L F' H' σ ss :=
  ⟨S.ext.trans e, S.fl.trans e.gf, S.len, fun i s hs => (S.ok i s hs).ext2 e, S.nd, S.ne⟩
theorem Sat.get (S : Sat K G H₀ L F H σ ss) {i : Nat} {s : Sl} (hs : ss[i]? = some s) (hn : s ≠ .un) : ∃ v, σ[i]? = some (some v) ∧ SlOk K H₀ F H (some v) s := by
  have hi : i < σ.length := by rw [S.len]; exact (List.getElem?_eq_some_iff.mp hs).1
  have := S.ok i s hs
  rw [List.getD_eq_getElem?_getD, List.getElem?_eq_getElem hi] at this
  simp only [Option.getD_some] at this
  cases hv : σ[i] with
  | none =>
    rw [hv] at this
    cases s with
    | un => exact absurd rfl hn
    | d x => obtain ⟨v, ev, _⟩ := this; cases ev
    | o p xs => obtain ⟨ev, _⟩ := this; cases ev
    | oo p qs => obtain ⟨ev, _⟩ := this; cases ev
  | some v =>
    rw [hv] at this
    exact ⟨v, by rw [List.getElem?_eq_getElem hi, hv], this⟩
theorem Sat.getD (S : Sat K G H₀ L F H σ ss) {i : Nat} {x : D} (hs : ss[i]? = some (.d x)) : ∃ v, σ[i]? = some (some v) ∧ Rep K F x v := by
  obtain ⟨v, e, w, ew, r⟩ := S.get hs (by intro z; cases z)
  cases ew
  exact ⟨v, e, r⟩
theorem Sat.getO (S : Sat K G H₀ L F H σ ss) {i : Nat} {p : Addr} {xs : List D} (hs : ss[i]? = some (.o p xs)) : σ[i]? = some (some (.ref p)) ∧ OwnL K H₀ F H p xs := by
  obtain ⟨v, e, ew, r⟩ := S.get hs (by intro z; cases z)
  cases ew
  exact ⟨e, r⟩
theorem getD_set_self {σ : St} {i : Nat} {v : Option V} (h : i < σ.length) : (σ.set i v).getD i none = v := by
  rw [List.getD_eq_getElem?_getD, List.getElem?_set_self h]; rfl
theorem getD_set_ne {σ : St} {i j : Nat} {v : Option V} (h : i ≠ j) : (σ.set i v).getD j none = σ.getD j none := by
  rw [List.getD_eq_getElem?_getD, List.getElem?_set_ne h, List.getD_eq_getElem?_getD]
theorem set_cases {i j : Nat} {s t : Sl} (h : (ss.set i s)[j]? = some t) : (i = j ∧ t = s ∧ i < ss.length) ∨ (i ≠ j ∧ ss[j]? = some t) := by
  by_cases hj : i = j
  · subst hj
    have hi := (List.getElem?_eq_some_iff.mp h).1
    rw [List.length_set] at hi
    rw [List.getElem?_set_self hi] at h
    exact .inl ⟨rfl, (Option.some.inj h).symm, hi⟩
  · rw [List.getElem?_set_ne hj] at h; exact .inr ⟨hj, h⟩
/-- the i-th slot is another now; the others hold as they did -/
theorem Sat.put {σ' : St} (S : Sat K G H₀ L F H σ ss) {i : Nat} {s : Sl} (ex : Ext G H₀ F' H') (fl : Same L F') (hl : σ'.length = σ.length) (hσ : ∀ j, j ≠ i → σ'.getD j none = σ.getD j none) (hi : i < ss.length → SlOk K H₀ F' H' (σ'.getD i none) s)
    (nd : s.ads.Nodup) (dj : ∀ (j : Nat) s', j ≠ i → ss[j]? = some s' → ∀ p ∈ s.ads, p ∉ s'.ads) (st : ∀ (j : Nat) s', j ≠ i → ss[j]? = some s' → SlOk K H₀ F' H' (σ.getD j none) s') : Sat K G H₀ L F' H' σ' (ss.set i s) := by
  refine ⟨ex, fl, by rw [List.length_set, hl, S.len], fun j t ht => ?_, fun j t ht => ?_, fun j k t u hjk ht hu => ?_⟩
  · rcases set_cases ht with ⟨rfl, rfl, hlt⟩ | ⟨hj, ht⟩
    · exact hi hlt
    · rw [hσ j (Ne.symm hj)]; exact st j t (Ne.symm hj) ht
  · rcases set_cases ht with ⟨rfl, rfl, _⟩ | ⟨hj, ht⟩
    · exact nd
    · exact S.nd j t ht
  · rcases set_cases ht with ⟨rfl, rfl, _⟩ | ⟨hj, ht'⟩
    · rcases set_cases hu with ⟨rfl, rfl, _⟩ | ⟨hk, hu'⟩
      · exact absurd rfl hjk
      · exact dj k u (Ne.symm hk) hu'
    · rcases set_cases hu with ⟨rfl, rfl, _⟩ | ⟨hk, hu'⟩
      · exact fun p hp hp' => dj j t (Ne.symm hj) ht' p hp' hp
      · exact S.ne j k t u hjk ht' hu'
/-- a name is given a frozen thing -/
theorem Sat.setD (S : Sat K G H₀ L F H σ ss) {i : Nat} {x : D} {v : V} (r : Rep K F x v) : Sat K G H₀ L F H (σ.set i (some v)) (ss.set i (.d x)) :=
  S.put S.ext S.fl (by simp) (fun j hj => getD_set_ne (Ne.symm hj)) (fun hi => by rw [getD_set_self (by rw [S.len]; exact hi)]; exact ⟨v, rfl, r⟩) (by simp [Sl.ads]) (fun _ _ _ _ p hp => by simp [Sl.ads] at hp) fun j s' _ h => S.ok j s' h
/-- a name is given a list of ours -/
theorem Sat.setO (S : Sat K G H₀ L F H σ ss) {i : Nat} {xs : List D} {p : Addr} (r : OwnL K H₀ F H p xs) (hne : ∀ (j : Nat) s', j ≠ i → ss[j]? = some s' → p ∉ s'.ads) : Sat K G H₀ L F H (σ.set i (some (.ref p))) (ss.set i (.o p xs)) :=
  S.put S.ext S.fl (by simp) (fun j hj => getD_set_ne (Ne.symm hj)) (fun hi => by rw [getD_set_self (by rw [S.len]; exact hi)]; exact ⟨rfl, r⟩) (by simp [Sl.ads]) (fun j s' hj h q hq => by simp [Sl.ads] at hq; subst hq; exact hne j s' hj h) fun j s' _ h => S.ok j s' h
/-- a list of ours is changed -/
theorem Sat.write (S : Sat K G H₀ L F H σ ss) {i : Nat} {xs ys : List D} {p : Addr} {vs : List V} (hs : ss[i]? = some (.o p xs)) (r : Reps K F ys vs) : Sat K G H₀ L F (upd H p (.lst vs)) σ (ss.set i (.o p ys)) := by
  obtain ⟨e, h0, fp, ws, hp, _⟩ := S.getO hs
  have hget : σ.getD i none = some (.ref p) := by rw [List.getD_eq_getElem?_getD, e]; rfl
  refine S.put (S.ext.write fp h0) S.fl rfl (fun _ _ => rfl) (fun _ => by rw [hget]; exact ⟨rfl, h0, fp, vs, upd_same, r⟩) (by simp [Sl.ads]) (fun j s' hj h q hq => ?_) fun j s' hj h => (S.ok j s' h).updNe (S.ne i j _ s' (Ne.symm hj) hs h p (by simp [Sl.ads]))
  simp [Sl.ads] at hq; subst hq
  exact S.ne i j _ s' (Ne.symm hj) hs h q (by simp [Sl.ads])
/-- a list of ours is frozen -/
theorem Sat.freeze (S : Sat K G H₀ L F H σ ss) {i : Nat} {p : Addr} {xs : List D} (hs : ss[i]? = some (.o p xs)) : ∃ F', Sat K G H₀ L F' H σ (ss.set i (.d (.lst xs))) := by
  obtain ⟨e, h0, fp, vs, hp, r⟩ := S.getO hs
  have hget : σ.getD i none = some (.ref p) := by rw [List.getD_eq_getElem?_getD, e]; rfl
  exact ⟨upd F p (.lst vs), S.put (S.ext.freeze fp h0 hp) (S.fl.trans (Same.upd fp)) rfl (fun _ _ => rfl) (fun _ => by rw [hget]; exact ⟨_, rfl, Rep.lst (SqL.of upd_same) (r.mono (Same.upd fp))⟩) (by simp [Sl.ads]) (fun _ _ _ _ q hq => by simp [Sl.ads] at hq)
    fun j s' hj h => (S.ok j s' h).frz fp (S.ne i j _ s' (Ne.symm hj) hs h p (by simp [Sl.ads]))⟩
theorem Sat.lower {L' : Hp} (S : Sat K G H₀ L' F H σ ss) (h : Same L L') : Sat K G H₀ L F H σ ss := ⟨S.ext, h.trans S.fl, S.len, S.ok, S.nd, S.ne⟩
end

/-! ### the judgements: what an expression comes to -/
section
variable (K : PySem.W.Frag) (G H₀ L : Hp) (ss : List Sl)
/-- frozen -/
def Ev (t : TE) (d : D) : Prop := ∀ F H σ Q, Sat K G H₀ L F H σ ss → (∀ v F' H', Ext F H F' H' → Rep K F' d v → Q v H') → t σ H Q
/-- a new list, its things frozen -/
def EvO (t : TE) (ds : List D) : Prop := ∀ F H σ Q, Sat K G H₀ L F H σ ss → (∀ p vs F' H', Ext F H F' H' → H p = none → F' p = none → H' p = some (.lst vs) → Reps K F' ds vs → Q (.ref p) H') → t σ H Q
/-- some list, its things frozen -/
def EvL (t : TE) (ds : List D) : Prop := ∀ F H σ Q, Sat K G H₀ L F H σ ss → (∀ p vs F' H', Ext F H F' H' → SqL K H' p vs → Reps K F' ds vs → Q (.ref p) H') → t σ H Q
/-- as it is now -/
def EvB (t : TE) (d : D) : Prop := ∀ F H σ Q, Sat K G H₀ L F H σ ss → (∀ v F' H', Ext F H F' H' → Rep K H' d v → Q v H') → t σ H Q
/-- an argument list: as it is now; frozen -/
def EvA (t : TA) (ds : List D) : Prop := ∀ F H σ (Q : List V → Hp → Prop), Sat K G H₀ L F H σ ss → (∀ vs F' H', Ext F H F' H' → Reps K H' ds vs → Q vs H') → t σ H Q
def EvAF (t : TA) (ds : List D) : Prop := ∀ F H σ (Q : List V → Hp → Prop), Sat K G H₀ L F H σ ss → (∀ vs F' H', Ext F H F' H' → Reps K F' ds vs → Q vs H') → t σ H Q
end
section
variable {K : PySem.W.Frag} {G H₀ L : Hp} {ss : List Sl} {t ta tb : TE} {d d1 d2 : D} {ds es : List D}
theorem EvO.ev (h : EvO K G H₀ L ss t ds) : Ev K G H₀ L ss t (.lst ds) := fun F H σ Q S q => h F H σ Q S fun p vs F' H' e hp fp hp' r => q _ _ _ (e.freeze fp hp hp') (Rep.lst (SqL.of upd_same) (r.mono (Same.upd fp)))
theorem EvO.l (h : EvO K G H₀ L ss t ds) : EvL K G H₀ L ss t ds := fun F H σ Q S q => h F H σ Q S fun p vs F' H' e hp fp hp' r => q _ _ _ _ e (SqL.of hp') r
theorem Ev.l (h : Ev K G H₀ L ss t (.lst ds)) : EvL K G H₀ L ss t ds := fun F H σ Q S q => h F H σ Q S fun v F' H' e r => by
  obtain ⟨p, xs, rfl, sq, rs⟩ := r.of_lst
  exact q _ _ _ _ e (SqL.same e.fh sq) rs
theorem Ev.b (h : Ev K G H₀ L ss t d) : EvB K G H₀ L ss t d := fun F H σ Q S q => h F H σ Q S fun v F' H' e r => q _ _ _ e (r.mono e.fh)
theorem EvL.b (h : EvL K G H₀ L ss t ds) : EvB K G H₀ L ss t (.lst ds) := fun F H σ Q S q => h F H σ Q S fun p vs F' H' e sq r => q _ _ _ e (Rep.lst sq (r.mono e.fh))
theorem ev_var {i : Nat} (hs : ss[i]? = some (.d d)) : Ev K G H₀ L ss (tVar i) d := fun F H σ Q S q => by
  obtain ⟨v, e, r⟩ := S.getD hs
  exact ⟨v, e, q _ _ _ (Ext.refl S.ext.fh) r⟩
theorem ev_int {i : Int} : Ev K G H₀ L ss (tC (.int i)) (.int i) := fun F H σ Q S q => q _ _ _ (Ext.refl S.ext.fh) Rep.int
/-- two things that are read, and a thing that needs no heap -/
theorem ev_op2 {r : R2} {w : V} (a : EvB K G H₀ L ss ta d1) (b : EvB K G H₀ L ss tb d2) (hr : ∀ H x y (Q : VK), Rep K H d1 x → Rep K H d2 y → Q w H → r x y H Q) (hw : ∀ F H x y, Rep K H d1 x → Rep K H d2 y → Rep K F d w) : Ev K G H₀ L ss (tOp r ta tb) d := fun F H σ Q S q =>
  a F H σ _ S fun x F1 H1 e1 r1 => b F1 H1 σ _ (S.ext2 e1) fun y F2 H2 e2 r2 => hr H2 x y Q (r1.mono e2.hh) r2 (q _ _ _ (e1.trans e2) (hw _ _ _ _ (r1.mono e2.hh) r2))
theorem ev_add {i j : Int} (a : EvB K G H₀ L ss ta (.int i)) (b : EvB K G H₀ L ss tb (.int j)) : Ev K G H₀ L ss (tOp (rI0 fun i j => .int (i + j)) ta tb) (.int (i + j)) :=
  ev_op2 a b (fun H x y Q r1 r2 q => ⟨i, j, r1.of_int, r2.of_int, q⟩) fun _ _ _ _ _ _ => Rep.int
theorem ev_cmpI {g : Int → Int → Bool} {i j : Int} (a : EvB K G H₀ L ss ta (.int i)) (b : EvB K G H₀ L ss tb (.int j)) : Ev K G H₀ L ss (tOp (rI0 fun i j => .bl (g i j)) ta tb) (.bl (g i j)) :=
  ev_op2 a b (fun H x y Q r1 r2 q => ⟨i, j, r1.of_int, r2.of_int, q⟩) fun _ _ _ _ _ _ => Rep.bl
theorem Reps.atI {H : Hp} {ds : List D} {vs : List V} {i : Int} {d : D} (r : Reps K H ds vs) (h : L2.atI ds i = some d) : ∃ v, L2.atI vs i = some v ∧ Rep K H d v := by
  unfold L2.atI at h ⊢
  rw [r.length] at h
  cases hx : ixN vs.length i with
  | none => rw [hx] at h; cases h
  | some j => rw [hx] at h; exact r.get' h
theorem eva_nil : EvA K G H₀ L ss tNil [] := fun F H σ Q S q => q _ _ _ (Ext.refl S.ext.fh) Reps.nil
theorem eva_cons {t : TA} (a : EvB K G H₀ L ss ta d) (b : EvA K G H₀ L ss t ds) : EvA K G H₀ L ss (tCons ta t) (d :: ds) := fun F H σ Q S q =>
  a F H σ _ S fun x F1 H1 e1 r1 => b F1 H1 σ _ (S.ext2 e1) fun vs F2 H2 e2 r2 => q _ _ _ (e1.trans e2) (Reps.cons (r1.mono e2.hh) r2)
theorem evaf_nil : EvAF K G H₀ L ss tNil [] := fun F H σ Q S q => q _ _ _ (Ext.refl S.ext.fh) Reps.nil
theorem evaf_cons {t : TA} (a : Ev K G H₀ L ss ta d) (b : EvAF K G H₀ L ss t ds) : EvAF K G H₀ L ss (tCons ta t) (d :: ds) := fun F H σ Q S q =>
  a F H σ _ S fun x F1 H1 e1 r1 => b F1 H1 σ _ (S.ext2 e1) fun vs F2 H2 e2 r2 => q _ _ _ (e1.trans e2) (Reps.cons (r1.mono e2.gf) r2)
theorem ev_tup {t : TA} (a : EvAF K G H₀ L ss t ds) (hz : ds.length ≤ sizeLine) : Ev K G H₀ L ss (tTup t) (.tup ds) := fun F H σ Q S q =>
  a F H σ _ S fun vs F1 H1 e1 r1 => ⟨by rw [← r1.length]; exact hz, fun p hp => q _ _ _ (e1.newF hp) (Rep.tup (SqT.of upd_same) (r1.mono (Same.upd (e1.fh.free hp))))⟩
theorem evo_lst {t : TA} (a : EvAF K G H₀ L ss t ds) (hz : ds.length ≤ sizeLine) : EvO K G H₀ L ss (tLst t) ds := fun F H σ Q S q =>
  a F H σ _ S fun vs F1 H1 e1 r1 => ⟨by rw [← r1.length]; exact hz, fun p hp => q p vs F1 _ (e1.newO hp) (e1.hh.free hp) (e1.fh.free hp) upd_same r1⟩
/-! tests -/
end
end L2

set_option Elab.async false
set_option linter.all false
set_option maxRecDepth 100000
set_option maxHeartbeats 4000000
namespace L2
open PySem PySem.Spec PyProof.Rows
/-! ### defs by their promises -/
/-- a promise: a new list is told -/
def SpO (K : PySem.W.Frag) (pre : List D → Prop) (res : List D → List D) : Sp := fun vs H Q _ => ∃ G ds, Same G H ∧ Reps K G ds vs ∧ pre ds ∧ ∀ p ws G' H', Ext G H G' H' → H p = none → G' p = none → H' p = some (.lst ws) → Reps K G' (res ds) ws → Q (.ref p) H'
def D.flat : D → Bool
  | .lst _ => false | .tup _ => false | _ => true
theorem Rep.flat {K : PySem.W.Frag} {H H' : Hp} {d : D} {v : V} (f : d.flat = true) (r : Rep K H d v) : Rep K H' d v := by
  cases d with
  | lst _ => cases f
  | tup _ => cases f
  | non => rw [r.of_non]; exact Rep.non
  | bl b => rw [r.of_bl]; exact Rep.bl
  | int i => rw [r.of_int]; exact Rep.int
  | str l => rw [r.of_str]; exact Rep.str r.asc
section
variable {K : PySem.W.Frag} {G H₀ L : Hp} {ss : List Sl} {t : TA} {ds : List D} {pre : List D → Prop} {E : XK}
theorem evo_call {res : List D → List D} (a : EvAF K G H₀ L ss t ds) (hp : pre ds) : EvO K G H₀ L ss (tCall (SpO K pre res) [] E t) (res ds) := fun F H σ Q S q =>
  a F H σ _ S fun vs F1 H1 e1 r1 => ⟨F1, ds, e1.fh, by rw [List.append_nil]; exact r1, hp, fun p ws G' H' e2 h1 h2 h3 r => q _ _ _ _ (e1.trans e2) (e1.hh.free h1) h2 h3 r⟩
end

/-! ### statements -/
section
variable (K : PySem.W.Frag) (G H₀ L : Hp)
def Nx (P : St → Hp → Prop) (ss : List Sl) : Prop := ∀ F H σ, Sat K G H₀ L F H σ ss → P σ H
def Go (E : Ends) (ss : List Sl) (t : TS) : Prop := ∀ F H σ, Sat K G H₀ L F H σ ss → t E σ H
/-- some state that the word holds of -/
def At (I : List Sl → Prop) : St → Hp → Prop := fun σ H => ∃ ss F, Sat K G H₀ L F H σ ss ∧ I ss
end
/-- what is wanted of the answer -/
def RtD (K : PySem.W.Frag) (G H₀ : Hp) (rt : VK) (d : D) : Prop := ∀ v F H, Ext G H₀ F H → Rep K F d v → rt v H
def RtO (K : PySem.W.Frag) (G H₀ : Hp) (rt : VK) (ds : List D) : Prop := ∀ p vs F H, Ext G H₀ F H → H₀ p = none → F p = none → H p = some (.lst vs) → Reps K F ds vs → rt (.ref p) H
section
variable {K : PySem.W.Frag} {G H₀ L : Hp} {ss ss' : List Sl} {E : Ends} {t u : TS} {te : TE} {d : D} {ds : List D} {P : St → Hp → Prop}
theorem go_seq (h : Go K G H₀ L { E with nx := u E } ss t) : Go K G H₀ L E ss (tSeq t u) := h
theorem go_set {i : Nat} (a : Ev K G H₀ L ss te d) (h : Nx K G H₀ L E.nx (ss.set i (.d d))) : Go K G H₀ L E ss (tAsg te (gName i)) := fun F H σ S => a F H σ _ S fun v F' H' e r => h F' H' _ ((S.ext2 e).setD r)
theorem Sat.notin {F H : Hp} {σ : St} {p : Addr} (S : Sat K G H₀ L F H σ ss) (hp : H p = none) (j : Nat) (s : Sl) (h : ss[j]? = some s) : p ∉ s.ads := fun z => (S.ok j s h).live z hp
theorem Sat.newO {F H F' H' : Hp} {σ : St} {p : Addr} {vs : List V} {i : Nat} (S : Sat K G H₀ L F H σ ss) (e : Ext F H F' H') (hp : H p = none) (fp : F' p = none) (hp' : H' p = some (.lst vs)) (r : Reps K F' ds vs) : Sat K G H₀ L F' H' (σ.set i (some (.ref p))) (ss.set i (.o p ds)) :=
  (S.ext2 e).setO ⟨S.ext.hh.free hp, fp, vs, hp', r⟩ fun j s _ h => S.notin hp j s h
theorem go_setO {i : Nat} (a : EvO K G H₀ L ss te ds) (h : ∀ p, Nx K G H₀ L E.nx (ss.set i (.o p ds))) : Go K G H₀ L E ss (tAsg te (gName i)) := fun F H σ S => a F H σ _ S fun p vs F' H' e hp fp hp' r => h p F' H' _ (S.newO e hp fp hp' r)
theorem go_ret (a : Ev K G H₀ L ss te d) (h : RtD K G H₀ E.rt d) : Go K G H₀ L E ss (tRet te) := fun F H σ S => a F H σ _ S fun v F' H' e r => h v F' H' (S.ext.trans e) r
theorem go_retV {i : Nat} {p : Addr} (hs : ss[i]? = some (.o p ds)) (h : RtO K G H₀ E.rt ds) : Go K G H₀ L E ss (tRet (tVar i)) := fun F H σ S => by
  obtain ⟨e, h0, fp, vs, hp, r⟩ := S.getO hs
  exact ⟨.ref p, e, h p vs F H S.ext h0 fp hp r⟩
theorem nx_go (h : Go K G H₀ L E ss t) : Nx K G H₀ L (t E) ss := h
theorem nx_at {I : List Sl → Prop} (h : I ss) : Nx K G H₀ L (At K G H₀ L I) ss := fun F H σ S => ⟨ss, F, S, h⟩
/-! targets -/
/-! lists of ours are changed -/
theorem go_append {i : Nat} {p : Addr} {t1 : TE} (hs : ss[i]? = some (.o p ds)) (a : Ev K G H₀ L ss t1 d) (hz : ds.length < sizeLine) (h : Nx K G H₀ L E.nx (ss.set i (.o p (ds ++ [d])))) :
    Go K G H₀ L E ss (tDrop (tBM K "list" rAppend (tVar i) (tCons t1 tNil))) := fun F H σ S => by
  obtain ⟨e, h0, fp, vs, hp, r⟩ := S.getO hs
  refine ⟨.ref p, e, .inl ⟨rfl, _, SqL.of hp⟩, a F H σ _ S fun v F' H' e' r' => ?_⟩
  have S' := S.ext2 e'
  obtain ⟨e2, h02, fp2, vs', hp2, r2⟩ := S'.getO hs
  exact ⟨p, vs', v, rfl, rfl, hp2, by rw [← r2.length]; exact hz, h F' _ σ (S'.write hs (r2.snoc r'))⟩
/-! loops -/
/-- over range(n) -/
theorem go_range {ta : TA} {j : Nat} {tb : TS} {n : Int} (I : Nat → List Sl → Prop) (a : EvA K G H₀ L ss ta [.int n]) (hb : -(2 ^ 62) ≤ n ∧ n < 2 ^ 62) (h0 : I 0 ss)
    (hs : ∀ (k : Nat) ss, (k : Int) < n → I k ss → ∀ N, (∀ ss, I (k + 1) ss → Nx K G H₀ L N ss) → Go K G H₀ L { E with nx := N, ct := N, bk := E.nx } (ss.set j (.d (.int (k : Int)))) tb)
    (hd : ∀ ss, I n.toNat ss → Nx K G H₀ L E.nx ss) {ti : TI} (hti : ∀ σ H R, (ta σ H fun vs H1 => ∃ m : Int, vs = [.int m] ∧ -(2 ^ 62) ≤ m ∧ m < 2 ^ 62 ∧ R (Itr 0 m.toNat) H1) → ti σ H R) : Go K G H₀ L E ss (tFor ti (gName j) tb) := fun F H σ S => by
  refine hti σ H _ (a F H σ _ S fun vs F1 H1 e1 r1 => ?_)
  rw [Reps] at r1
  obtain ⟨x, r, rfl, rx, r1⟩ := r1
  rw [Reps] at r1
  subst r1
  rw [rx.of_int]
  refine ⟨n, rfl, hb.1, hb.2, fun i m σ' H' => m = n.toNat - i ∧ i ≤ n.toNat ∧ At K G H₀ L (I i) σ' H', ⟨_, rfl, Nat.zero_le _, ss, F1, S.ext2 e1, h0⟩, ?_⟩
  rintro i m σ' H' ⟨rfl, hi, ss1, F2, S2, h2⟩
  by_cases hlt : i < n.toNat
  · refine .inr ⟨hlt, fun σ'' H'' => At K G H₀ L (I (i + 1)) σ'' H'', fun σ'' H'' h => ⟨n.toNat - (i + 1), by omega, rfl, hlt, h⟩, fun x H'' y => ?_⟩
    obtain ⟨rfl, rfl⟩ := y
    refine hs i ss1 (by omega) h2 _ (fun ss h => nx_at h) F2 _ _ ?_
    have e : (0 : Int) + (i : Int) = (i : Int) := by omega
    rw [e]
    exact S2.setD Rep.int
  · have e : i = n.toNat := by omega
    subst e
    exact .inl ⟨Nat.le_refl _, hd ss1 h2 F2 H' σ' S2⟩
end
end L2

set_option Elab.async false
set_option linter.all false
set_option maxRecDepth 100000
set_option maxHeartbeats 4000000
/-! whole data compared -/
namespace L2
open PySem PySem.Spec PyProof.Rows
section
variable {X : Cx} {pins : List (Addr × Obj)} {σ : St} {H : Hp} {s : Shared}
end
section
variable {X : Cx}
end
section
variable {K : PySem.W.Frag} {G H₀ L : Hp} {ss : List Sl} {t ta tb : TE} {d d1 d2 : D} {ds es : List D}
end
/-! data of many alike things -/
end L2

set_option Elab.async false
set_option linter.all false
set_option maxRecDepth 100000
set_option maxHeartbeats 4000000
/-! comprehensions -/
namespace L2
open PySem PySem.Spec PyProof.Rows
section
variable {K : PySem.W.Frag} {G H₀ L : Hp} {ss : List Sl}
end
end L2

set_option Elab.async false
set_option linter.all false
set_option maxRecDepth 100000
set_option maxHeartbeats 4000000
/-! sorted, of fewer than 64 things: the mathematics of the runs and the insertions -/
namespace L2
open PySem PySem.W PyProof.Rows
section
variable (key : Nat → Int)
/-- the key at a place -/
def kk (p : Array Nat) (i : Nat) : Int := key (p.getD i 0)
def Up (p : Array Nat) (n : Nat) : Prop := ∀ i j, i ≤ j → j < n → kk key p i ≤ kk key p j
def Dn (p : Array Nat) (n : Nat) : Prop := ∀ i j, i ≤ j → j < n → kk key p j ≤ kk key p i
variable {key}
theorem Up.snoc {p : Array Nat} {n : Nat} (h : Up key p n) (h0 : 0 < n) (hn : kk key p (n - 1) ≤ kk key p n) : Up key p (n + 1) := fun i j h1 h2 => by
  by_cases hj : j < n
  · exact h i j h1 hj
  · have : j = n := by omega
    subst this
    by_cases hi : i = j
    · subst hi; exact Int.le_refl _
    · exact Int.le_trans (h i (j - 1) (by omega) (by omega)) hn
theorem Dn.snoc {p : Array Nat} {n : Nat} (h : Dn key p n) (h0 : 0 < n) (hn : kk key p n ≤ kk key p (n - 1)) : Dn key p (n + 1) := fun i j h1 h2 => by
  by_cases hj : j < n
  · exact h i j h1 hj
  · have : j = n := by omega
    subst this
    by_cases hi : i = j
    · subst hi; exact Int.le_refl _
    · exact Int.le_trans hn (h i (j - 1) (by omega) (by omega))
/-- what a counted run is worth -/
def Good (key : Nat → Int) (p : Array Nat) (nrem : Nat) (r : Nat × Array Nat) : Prop := 1 ≤ r.1 ∧ r.1 ≤ nrem ∧ r.2.size = p.size ∧ r.2.Perm p ∧ Up key r.2 r.1
theorem Good.perm {p q : Array Nat} {nrem : Nat} {r : Nat × Array Nat} (h : Good key p nrem r) (hp : p.Perm q) (hs : p.size = q.size) : Good key q nrem r := ⟨h.1, h.2.1, h.2.2.1.trans hs, h.2.2.2.1.trans hp, h.2.2.2.2⟩
end
end L2

set_option Elab.async false
set_option linter.all false
set_option maxRecDepth 100000
set_option maxHeartbeats 4000000
/-! sorted, of lists of any length, whatever sorts their runs -/
namespace L2
open PySem PySem.W PyProof.Rows
section
variable {prog : Program} {w : World} {A : Around} {E : Value → Shared → Prop} {s : Shared}
end
end L2

set_option Elab.async false
set_option linter.all false
set_option maxRecDepth 100000
set_option maxHeartbeats 4000000
/-! sorted, below 64: what is asked lies in the list -/
namespace L2
open PySem PySem.W PyProof.Rows
def InR {α : Type} (n : Nat) (P : α → Prop) : KasT α → Prop
  | .ret a => P a
  | .ask i j k => i < n ∧ j < n ∧ ∀ b, InR n P (k b)
theorem InR.bind {α β : Type} {n : Nat} {f : α → KasT β} {P : α → Prop} {Q : β → Prop} (hf : ∀ a, P a → InR n Q (f a)) : ∀ {t : KasT α}, InR n P t → InR n Q (t.bind f)
  | .ret a, h => hf a h
  | .ask i j k, h => ⟨h.1, h.2.1, fun b => InR.bind hf (h.2.2 b)⟩
def Ent (n : Nat) (p : Array Nat) : Prop := ∀ i, p.getD i 0 < n
theorem Ent.perm {n : Nat} {p q : Array Nat} (h : Ent n p) (hp : q.Perm p) (hn : 0 < n) : Ent n q := fun i => by
  have e : ∀ (q : Array Nat) (m : Nat), q.getD m 0 = (q[m]?).getD 0 := fun q m => by simp [Array.getD_eq_getD_getElem?]
  rw [e]
  cases hq : q[i]? with
  | none => exact hn
  | some x =>
    have hx : x ∈ q := Array.mem_of_getElem? hq
    have hx2 : x ∈ p := hp.mem_iff.mp hx
    obtain ⟨j, hj, ej⟩ := Array.mem_iff_getElem.mp hx2
    have := h j
    rw [e, Array.getElem?_eq_getElem hj, ej] at this
    exact this
section
variable {n : Nat} (hn : 0 < n)
include hn in
include hn in
include hn in
include hn in
include hn in
include hn in
end
section
variable {prog : Program} {w : World} {A : Around} {s : Shared}
end
end L2

set_option Elab.async false
set_option linter.all false
set_option maxRecDepth 100000
set_option maxHeartbeats 4000000
/-! sorted, of data: texts, numbers, tuples of such -/
namespace L2
open PySem PySem.W PyProof.Rows
inductive Ty where | s | i
def Ty.ok : Ty → D → Bool
  | .s, .str _ => true
  | .i, .int _ => true
  | _, _ => false
def shOk : List Ty → List D → Bool
  | [], [] => true
  | t :: ts, d :: ds => t.ok d && shOk ts ds
  | _, _ => false
/-- what can be put in order -/
def Alike (ds : List D) : Prop := (∀ d ∈ ds, Ty.ok .s d = true) ∨ (∀ d ∈ ds, Ty.ok .i d = true) ∨ ∃ t ts, ∀ d ∈ ds, ∃ es, d = .tup es ∧ shOk (t :: ts) es = true
/-! ranks -/
/-! the asking -/
section
variable {prog : Program} {w : World} {A : Around} {E : Value → Shared → Prop} {s : Shared}
/-- a flat thing's value -/
def FV : D → Value → Prop
  | .str l, u => ∃ t, u = .str (T l) t
  | .int i, u => ∃ t, u = .int i t
  | _, _ => False
inductive FVs : List D → List Value → Prop
  | nil : FVs [] []
  | cons {d ds u us} : FV d u → FVs ds us → FVs (d :: ds) (u :: us)
end
end L2

set_option Elab.async false
set_option linter.all false
set_option maxRecDepth 100000
set_option maxHeartbeats 1000000
/-! sorting of any length: the gallops -/
namespace L2
open PySem PySem.W PyProof.Rows
section
variable {prog : Program} {w : World} {A : Around} {E : Value → Shared → Prop} {s : Shared} {κ : SortKind} {it : Array Keyed} {n : Nat} {key : Nat → Int}
end
end L2

set_option Elab.async false
set_option linter.all false
set_option maxRecDepth 100000
set_option maxHeartbeats 1000000
/-! sorting of any length: two sorted runs made one -/
namespace L2
open PySem PySem.W PyProof.Rows
structure MI (R : Nat → Nat → Prop) (ua ub o : List Nat) (i j : Nat) : Prop where
  hi : i ≤ ua.length
  hj : j ≤ ub.length
  pw : o.Pairwise R
  pa : ∀ x ∈ o, ∀ y ∈ ua.drop i, R x y
  pb : ∀ x ∈ o, ∀ y ∈ ub.drop j, R x y
  pm : o.Perm (ua.take i ++ ub.take j)
section
variable {R : Nat → Nat → Prop} {ua ub o : List Nat} {i j : Nat}
theorem MI.swap (h : MI R ua ub o i j) : MI R ub ua o j i := ⟨h.hj, h.hi, h.pw, h.pb, h.pa, h.pm.trans List.perm_append_comm⟩
theorem MI.fin (h : MI R ua ub o ua.length ub.length) : o.Pairwise R ∧ o.Perm (ua ++ ub) := ⟨h.pw, by simpa using h.pm⟩
theorem MI.len (h : MI R ua ub o i j) : o.length = i + j := by
  have := h.pm.length_eq
  have h1 := h.hi
  have h2 := h.hj
  simp at this; omega
end
def AK (it : Array Keyed) (o : List Nat) : Array Keyed := (o.map (kas_item it)).toArray
def SS (st st' : SortSt) : Prop := kindOf st' = kindOf st ∧ arrOf st' = arrOf st ∧ pendingOf st' = pendingOf st ∧ failedOf st' = failedOf st
theorem SS.refl (st : SortSt) : SS st st := ⟨rfl, rfl, rfl, rfl⟩
section
variable {prog : Program} {w : World} {A : Around} {E : Value → Shared → Prop} {s : Shared} {κ : SortKind} {it : Array Keyed} {n : Nat} {key : Nat → Int}
/-- what a merge leaves -/
def Res (it : Array Keyed) (key : Nat → Int) (ua ub : List Nat) (r : Array Keyed) : Prop := ∃ q : List Nat, r = AK it q ∧ q.Perm (ua ++ ub) ∧ q.Pairwise fun x y => key x ≤ key y
theorem Res.of {ua ub o : List Nat} (h : MI (fun x y => key x ≤ key y) ua ub o ua.length ub.length) : Res it key ua ub (AK it o) := ⟨o, rfl, h.fin.2, h.fin.1⟩
end
end L2

set_option Elab.async false
set_option linter.all false
set_option maxRecDepth 100000
set_option maxHeartbeats 2000000
/-! sorting of any length: the merge from below -/
namespace L2
open PySem PySem.W PyProof.Rows
section
variable {prog : Program} {w : World} {A : Around} {E : Value → Shared → Prop} {s : Shared} {κ : SortKind} {it : Array Keyed} {n : Nat} {key : Nat → Int}
end
end L2

set_option Elab.async false
set_option linter.all false
set_option maxRecDepth 100000
set_option maxHeartbeats 2000000
/-! sorting of any length: the merge from above -/
namespace L2
open PySem PySem.W PyProof.Rows
abbrev RG (key : Nat → Int) : Nat → Nat → Prop := fun x y => key y ≤ key x
def MH (key : Nat → Int) (pa pb o : List Nat) (na nb : Nat) : Prop := na ≤ pa.length ∧ nb ≤ pb.length ∧ MI (RG key) pa.reverse pb.reverse o (pa.length - na) (pb.length - nb)
section
variable {key : Nat → Int} {pa pb o : List Nat} {na nb : Nat}
theorem MH.swap (h : MH key pa pb o na nb) : MH key pb pa o nb na := ⟨h.2.1, h.1, h.2.2.swap⟩
theorem MH.len (h : MH key pa pb o na nb) : o.length + na + nb = pa.length + pb.length := by
  have := h.2.2.len
  have h1 := h.1
  have h2 := h.2.1
  omega
end
section
variable {prog : Program} {w : World} {A : Around} {E : Value → Shared → Prop} {s : Shared} {κ : SortKind} {it : Array Keyed} {n : Nat} {key : Nat → Int}
end
end L2

set_option Elab.async false
set_option linter.all false
set_option maxRecDepth 100000
set_option maxHeartbeats 2000000
/-! sorting of any length: two neighbouring runs -/
namespace L2
open PySem PySem.W PyProof.Rows
def Seg (key : Nat → Int) (p : Array Nat) (i j : Nat) : Prop := ∀ s t, i ≤ s → s ≤ t → t < j → kk key p s ≤ kk key p t
section
variable {prog : Program} {w : World} {A : Around} {E : Value → Shared → Prop} {s : Shared} {κ : SortKind} {it : Array Keyed} {n : Nat} {key : Nat → Int}
/-- how the state stands -/
def Sta (κ : SortKind) (it : Array Keyed) (st : SortSt) (p : Array Nat) (pend : Array (Nat × Nat × Nat)) : Prop := kindOf st = κ ∧ arrOf st = p.map (kas_item it) ∧ pendingOf st = pend ∧ failedOf st = none
end
end L2

set_option Elab.async false
set_option linter.all false
set_option maxRecDepth 100000
set_option maxHeartbeats 2000000
/-! sorting of any length: runs counted, and lengthened -/
namespace L2
open PySem PySem.W PyProof.Rows
def Mv (p p' : Array Nat) (lo hi : Nat) : Prop := p'.size = p.size ∧ p'.Perm p ∧ ∀ t, t < lo ∨ hi ≤ t → p'.getD t 0 = p.getD t 0
theorem Mv.refl (p : Array Nat) (lo hi : Nat) : Mv p p lo hi := ⟨rfl, Array.Perm.refl _, fun _ _ => rfl⟩
theorem Mv.trans {p q r : Array Nat} {lo hi : Nat} (h : Mv p q lo hi) (k : Mv q r lo hi) : Mv p r lo hi := ⟨k.1.trans h.1, k.2.1.trans h.2.1, fun t ht => (k.2.2 t ht).trans (h.2.2 t ht)⟩
def Sgd (key : Nat → Int) (p : Array Nat) (i j : Nat) : Prop := ∀ s t, i ≤ s → s ≤ t → t < j → kk key p t ≤ kk key p s
section
variable {key : Nat → Int} {p : Array Nat} {i j : Nat}
theorem Seg.snoc (h : Seg key p i j) (hij : i < j) (hn : kk key p (j - 1) ≤ kk key p j) : Seg key p i (j + 1) := fun s t h1 h2 h3 => by
  by_cases e : t = j
  · subst e
    by_cases e2 : s = t
    · subst e2; exact Int.le_refl _
    · exact Int.le_trans (h s (t - 1) h1 (by omega) (by omega)) hn
  · exact h s t h1 h2 (by omega)
theorem Sgd.snoc (h : Sgd key p i j) (hij : i < j) (hn : kk key p j ≤ kk key p (j - 1)) : Sgd key p i (j + 1) := fun s t h1 h2 h3 => by
  by_cases e : t = j
  · subst e
    by_cases e2 : s = t
    · subst e2; exact Int.le_refl _
    · exact Int.le_trans hn (h s (t - 1) h1 (by omega) (by omega))
  · exact h s t h1 h2 (by omega)
theorem Seg.one : Seg key p i (i + 1) := fun s t h1 h2 h3 => by
  have : s = t := by omega
  subst this; exact Int.le_refl _
theorem Sgd.congr {p' : Array Nat} (h : Sgd key p i j) (e : ∀ k, kk key p' k = kk key p k) : Sgd key p' i j := fun s t h1 h2 h3 => by rw [e, e]; exact h s t h1 h2 h3
end
section
variable {prog : Program} {w : World} {A : Around} {E : Value → Shared → Prop} {s : Shared} {κ : SortKind} {it : Array Keyed} {n : Nat} {key : Nat → Int}
theorem Sta.get {st : SortSt} {p : Array Nat} {pend : Array (Nat × Nat × Nat)} (h : Sta κ it st p pend) {i : Nat} (hi : i < p.size) : (arrOf st)[i]? = some (kas_item it (p.getD i 0)) := by
  rw [h.2.1]
  have e : p.getD i 0 = p[i] := by simp [Array.getD, hi]
  rw [e]; simp [hi]
end
end L2

set_option Elab.async false
set_option linter.all false
set_option maxRecDepth 100000
set_option maxHeartbeats 2000000
/-! sorting of any length -/
namespace L2
open PySem PySem.W PyProof.Rows
def Runs (key : Nat → Int) (p : Array Nat) : List (Nat × Nat × Nat) → Nat → Nat → Prop
  | [], lo, hi => lo = hi
  | r :: l, lo, hi => r.1 = lo ∧ 0 < r.2.1 ∧ Seg key p lo (lo + r.2.1) ∧ Runs key p l (lo + r.2.1) hi
section
variable {key : Nat → Int} {p : Array Nat}
theorem Runs.len : ∀ {l : List (Nat × Nat × Nat)} {lo hi : Nat}, Runs key p l lo hi → lo + l.length ≤ hi
  | [], _, _, h => by simp [Runs] at h; simp; omega
  | r :: l, lo, hi, h => by
    have := Runs.len h.2.2.2
    have := h.2.1
    simp; omega
theorem Runs.congr {p' : Array Nat} : ∀ {l : List (Nat × Nat × Nat)} {lo hi : Nat}, Runs key p l lo hi → (∀ t, lo ≤ t → t < hi → p'.getD t 0 = p.getD t 0) → Runs key p' l lo hi
  | [], _, _, h, _ => h
  | r :: l, lo, hi, h, e => by
    have hl := h.2.2.2.len
    refine ⟨h.1, h.2.1, fun s t h1 h2 h3 => ?_, h.2.2.2.congr fun t h1 h2 => e t (by omega) h2⟩
    unfold kk
    rw [e s h1 (by omega), e t (by omega) (by omega)]
    exact h.2.2.1 s t h1 h2 h3
theorem Runs.push : ∀ {l : List (Nat × Nat × Nat)} {lo hi m pw : Nat}, Runs key p l lo hi → 0 < m → Seg key p hi (hi + m) → Runs key p (l ++ [(hi, m, pw)]) lo (hi + m)
  | [], lo, hi, m, pw, h, hm, hs => by
    simp only [Runs] at h
    subst h
    exact ⟨rfl, hm, hs, rfl⟩
  | r :: l, lo, hi, m, pw, h, hm, hs => ⟨h.1, h.2.1, h.2.2.1, h.2.2.2.push hm hs⟩
theorem Runs.modify {f : Nat × Nat × Nat → Nat × Nat × Nat} (hf : ∀ r, (f r).1 = r.1 ∧ (f r).2.1 = r.2.1) : ∀ {l : List (Nat × Nat × Nat)} {i lo hi : Nat}, Runs key p l lo hi → Runs key p (l.modify i f) lo hi
  | [], i, lo, hi, h => by cases i <;> simpa using h
  | r :: l, 0, lo, hi, h => by
    rw [List.modify_zero_cons]
    simp only [Runs] at h ⊢
    rw [(hf r).1, (hf r).2]
    exact h
  | r :: l, i + 1, lo, hi, h => by
    rw [List.modify_succ_cons]
    exact ⟨h.1, h.2.1, h.2.2.1, h.2.2.2.modify hf⟩
theorem Runs.merge : ∀ {l : List (Nat × Nat × Nat)} {i lo hi : Nat}, Runs key p l lo hi → i + 1 < l.length → ∃ sa na pw sb nb pw2, l[i]? = some (sa, na, pw) ∧ l[i + 1]? = some (sb, nb, pw2) ∧ sb = sa + na ∧ 0 < na ∧ 0 < nb ∧ lo ≤ sa ∧ sb + nb ≤ hi ∧ Seg key p sa sb ∧ Seg key p sb (sb + nb) ∧
    ∀ p' : Array Nat, (∀ t, t < sa ∨ sb + nb ≤ t → p'.getD t 0 = p.getD t 0) → Seg key p' sa (sb + nb) → Runs key p' ((l.set i (sa, na + nb, pw)).eraseIdx (i + 1)) lo hi
  | [], i, lo, hi, h, hi1 => by simp at hi1
  | [r], 0, lo, hi, h, hi1 => by simp at hi1
  | (a1, a2, a3) :: (b1, b2, b3) :: l, 0, lo, hi, h, hi1 => by
    obtain ⟨e1, e2, e3, f1, f2, f3, f4⟩ := h
    dsimp only at e1 e2 e3 f1 f2 f3 f4
    have hl := f4.len
    subst e1
    subst f1
    refine ⟨a1, a2, a3, a1 + a2, b2, b3, rfl, rfl, rfl, e2, f2, Nat.le_refl _, by omega, e3, f3, fun p' hp hs => ?_⟩
    show Runs key p' ((a1, a2 + b2, a3) :: l) a1 hi
    refine ⟨rfl, by show 0 < a2 + b2; omega, ?_, ?_⟩
    · show Seg key p' a1 (a1 + (a2 + b2))
      rw [← Nat.add_assoc]; exact hs
    · show Runs key p' l (a1 + (a2 + b2)) hi
      rw [← Nat.add_assoc]
      exact f4.congr fun t h1 h2 => hp t (.inr h1)
  | r :: l, i + 1, lo, hi, h, hi1 => by
    obtain ⟨e1, e2, e3, e4⟩ := h
    obtain ⟨sa, na, pw, sb, nb, pw2, g1, g2, g3, g4, g5, g6, g7, g8, g9, g10⟩ := e4.merge (i := i) (by simpa using hi1)
    refine ⟨sa, na, pw, sb, nb, pw2, by simpa using g1, by simpa using g2, g3, g4, g5, by omega, g7, g8, g9, fun p' hp hs => ?_⟩
    show Runs key p' (r :: ((l.set i (sa, na + nb, pw)).eraseIdx (i + 1))) lo hi
    refine ⟨e1, e2, fun s t h1 h2 h3 => ?_, g10 p' hp hs⟩
    unfold kk
    rw [hp s (.inl (by omega)), hp t (.inl (by omega))]
    exact e3 s t h1 h2 h3
theorem Runs.whole {l : List (Nat × Nat × Nat)} {hi : Nat} (h : Runs key p l 0 hi) (hl : l.length ≤ 1) : Seg key p 0 hi := by
  match l, hl with
  | [], _ => simp only [Runs] at h; subst h; intro s t h1 h2 h3; omega
  | [r], _ =>
    obtain ⟨e1, e2, e3, e4⟩ := h
    simp only [Runs] at e4
    subst e4
    exact e3
end
section
variable {prog : Program} {w : World} {A : Around} {E : Value → Shared → Prop} {s : Shared} {κ : SortKind} {it : Array Keyed} {n : Nat} {key : Nat → Int}
/-- where the sorting stands -/
def Now (κ : SortKind) (it : Array Keyed) (key : Nat → Int) (p0 : Array Nat) (lo : Nat) (T : Array Nat) (st : SortSt) (len : Nat) : Prop := ∃ p pend, Sta κ it st p pend ∧ p.size = p0.size ∧ p.Perm p0 ∧ Runs key p pend.toList 0 lo ∧ pend.size = len ∧ ∀ t, lo ≤ t → p.getD t 0 = T.getD t 0
theorem Now.pow {p0 T : Array Nat} {lo len i : Nat} {st st5 : SortSt} {f : Nat × Nat × Nat → Nat × Nat × Nat} (hN : Now κ it key p0 lo T st len) (e5 : st5 = setPending st ((pendingOf st).modify i f)) (hf : ∀ r, (f r).1 = r.1 ∧ (f r).2.1 = r.2.1) : ∃ len', Now κ it key p0 lo T st5 len' := by
  obtain ⟨p, pend, hs, z, pm, hr, e, t⟩ := hN
  refine ⟨_, p, pend.modify i f, ?_, z, pm, ?_, rfl, t⟩
  · rw [e5]
    refine ⟨hs.1, hs.2.1, ?_, hs.2.2.2⟩
    show (pendingOf st).modify _ _ = _
    rw [hs.2.2.1]
  · rw [Array.toList_modify]
    exact hr.modify hf
end
end L2

set_option Elab.async false
set_option linter.all false
set_option maxRecDepth 100000
set_option maxHeartbeats 4000000
/-! sorted as a rule of the layer, at any length -/
namespace L2
open PySem PySem.W PyProof.Rows
section
variable {prog : Program} {w : World} {A : Around} {s : Shared}
end
theorem Vals.pick {xs : List V} {us : List Value} (r : Vals xs us) : ∀ p : List Nat, (∀ i ∈ p, i < xs.length) → Vals (p.map fun i => xs.getD i .non) (p.map fun i => us.getD i Value.none)
  | [], _ => .nil
  | i :: p, h => by
    have hi := h i List.mem_cons_self
    obtain ⟨u, hu, ru⟩ := r.get (List.getElem?_eq_getElem hi)
    refine .cons ?_ (Vals.pick r p fun j hj => h j (List.mem_cons_of_mem _ hj))
    show RelV (xs.getD i .non) (us.getD i Value.none)
    rw [List.getD_eq_getElem?_getD, List.getElem?_eq_getElem hi, List.getD_eq_getElem?_getD, hu]
    exact ru
theorem Reps.pick {K : PySem.W.Frag} {H : Hp} {ds : List D} {xs : List V} (r : Reps K H ds xs) : ∀ p : List Nat, (∀ i ∈ p, i < ds.length) → Reps K H (p.map fun i => ds.getD i .non) (p.map fun i => xs.getD i .non)
  | [], _ => Reps.nil
  | i :: p, h => by
    have hi := h i List.mem_cons_self
    obtain ⟨u, hu, ru⟩ := r.get' (List.getElem?_eq_getElem hi)
    refine Reps.cons ?_ (Reps.pick r p fun j hj => h j (List.mem_cons_of_mem _ hj))
    show Rep K H (ds.getD i .non) (xs.getD i .non)
    rw [List.getD_eq_getElem?_getD, List.getElem?_eq_getElem hi, List.getD_eq_getElem?_getD, hu]
    exact ru
section
variable {X : Cx} {pins : List (Addr × Obj)} {σ : St} {H : Hp} {s : Shared}
theorem FV.of {t : Ty} {d : D} {x : V} {u : Value} (ht : t.ok d = true) (r : Rep X.K H d x) (q : RelV x u) : FV d u := by
  cases t <;> cases d <;> simp [Ty.ok] at ht
  · rw [r.of_str] at q; exact q
  · rw [r.of_int] at q; exact q
theorem FVs.of : ∀ {ts : List Ty} {ds : List D} {xs : List V} {us : List Value}, shOk ts ds = true → Reps X.K H ds xs → Vals xs us → FVs ds us
  | [], ds, _, _, ht, r, q => by
    cases ds <;> simp [shOk] at ht
    rw [Reps] at r; subst r; cases q; exact .nil
  | t :: ts, ds, _, _, ht, r, q => by
    cases ds with
    | nil => simp [shOk] at ht
    | cons d ds =>
      simp only [shOk, Bool.and_eq_true] at ht
      rw [Reps] at r
      obtain ⟨x, xs, rfl, r1, r2⟩ := r
      cases q with
      | cons q1 q2 => exact .cons (FV.of ht.1 r1 q1) (FVs.of ht.2 r2 q2)
/-- a tuple's value in the heap -/
def TV (h : Heap) (es : List D) (u : Value) : Prop := ∃ a o its n, u = .ref a ∧ h.get? a = some o ∧ o.cls = .type "tuple" ∧ o.data = .seq its n ∧ FVs es its.toList
theorem Inv.tv (I : Inv X pins σ H s) {ts : List Ty} {es : List D} {x : V} {u : Value} (ht : shOk ts es = true) (r : Rep X.K H (.tup es) x) (q : RelV x u) : TV s.heap es u := by
  obtain ⟨p, xs, rfl, sq, rs⟩ := r.of_tup
  cases q
  obtain ⟨its, rv, ⟨o, e, c, n, hd⟩, _⟩ := I.tuple sq
  exact ⟨p, o, its.toArray, n, rfl, e, c, hd, by simpa using FVs.of ht rs rv⟩
def Ty.tv : Ty → Value
  | .s => .type "str"
  | .i => .type "int"
end
section
variable {K : PySem.W.Frag} {G H₀ L : Hp} {ss : List Sl} {t : TE} {ds : List D}
end
end L2

set_option Elab.async false
set_option linter.all false
set_option maxRecDepth 100000
set_option maxHeartbeats 2000000
/-! Python's own functions on data -/
namespace L2
open PySem PySem.W PySem.Spec PyProof.Rows
def cutD (xs : List D) (lo hi : Option Int) : List D := (xs.drop (HT.sIx xs.length 0 lo)).take (HT.sIx xs.length xs.length hi - HT.sIx xs.length 0 lo)
theorem Reps.cut {K : PySem.W.Frag} {H : Hp} {ds : List D} {xs : List V} (lo hi : Option Int) (h : Reps K H ds xs) : Reps K H (cutD ds lo hi) (cutV xs lo hi) := by
  unfold cutD cutV
  rw [← h.length]
  exact (h.drop _).take _
section
variable {K : PySem.W.Frag} {G H₀ L : Hp} {ss : List Sl} {t ta tb : TE} {d : D} {ds : List D}
/-! len -/
theorem ev_lenS {l : List Nat} (a : EvB K G H₀ L ss t (.str l)) (hz : l.length ≤ sizeLine) : Ev K G H₀ L ss (tCB (fun xs H Q => ∃ z : Str, xs = [.str z] ∧ z.length ≤ sizeLine ∧ Q (.int z.length) H) (tCons t tNil)) (.int l.length) := fun F H σ Q S q =>
  a F H σ _ S fun v F' H' e r => by
    rw [r.of_str]
    exact ⟨T l, rfl, by rw [T_len]; exact hz, q _ _ _ e (by rw [T_len]; exact Rep.int)⟩
/-! list(x) -/
/-! slices -/
def EvP (K : PySem.W.Frag) (G H₀ L : Hp) (ss : List Sl) (t : TO) (o : Option Int) : Prop := ∀ F H σ (Q : Option Int → Hp → Prop), Sat K G H₀ L F H σ ss → (∀ F' H', Ext F H F' H' → Q o H') → t σ H Q
theorem evp_no : EvP K G H₀ L ss tNoPart none := fun F H σ Q S q => q _ _ (Ext.refl S.ext.fh)
theorem evp_part {i : Int} (a : EvB K G H₀ L ss t (.int i)) : EvP K G H₀ L ss (tPart t) (some i) := fun F H σ Q S q => a F H σ _ S fun v F' H' e r => ⟨i, r.of_int, q _ _ e⟩
theorem ev_slS {tl th : TO} {lo hi : Option Int} {l : List Nat} (a : EvB K G H₀ L ss t (.str l)) (b : EvP K G H₀ L ss tl lo) (c : EvP K G H₀ L ss th hi) (hz : l.length ≤ sizeLine) : Ev K G H₀ L ss (tSl rSlS t tl th) (.str (cutL l lo hi)) := fun F H σ Q S q =>
  a F H σ _ S fun v F1 H1 e1 r => b F1 H1 σ _ (S.ext2 e1) fun F2 H2 e2 => c F2 H2 σ _ ((S.ext2 e1).ext2 e2) fun F3 H3 e3 =>
    ⟨l, r.of_str, hz, q _ _ _ ((e1.trans e2).trans e3) (Rep.str fun c hc => r.asc c (List.mem_of_mem_drop (List.mem_of_mem_take hc)))⟩
/-! join -/
end
theorem Reps.strs {K : PySem.W.Frag} {H : Hp} : ∀ {ls : List (List Nat)} {vs : List V}, Reps K H (ls.map D.str) vs → vs = (ls.map T).map V.str ∧ ∀ l ∈ ls, ∀ c ∈ l, c < 128
  | [], vs, h => by rw [List.map_nil, Reps] at h; subst h; exact ⟨rfl, by simp⟩
  | l :: ls, vs, h => by
    rw [List.map_cons, Reps] at h
    obtain ⟨x, xs, rfl, h1, h2⟩ := h
    obtain ⟨e, ha⟩ := h2.strs
    refine ⟨by rw [h1.of_str, e]; rfl, fun m hm => ?_⟩
    rcases List.mem_cons.mp hm with rfl | hm
    · exact h1.asc
    · exact ha m hm
section
variable {K : PySem.W.Frag} {G H₀ L : Hp} {ss : List Sl} {t ta tb : TE} {d : D} {ds : List D}
/-! isinstance -/
end
/-! strip -/
section
variable {X : Cx}
end
section
variable {K : PySem.W.Frag} {G H₀ L : Hp} {ss : List Sl} {t ta tb : TE} {d : D} {ds : List D}
end
end L2

set_option Elab.async false
set_option linter.all false
set_option maxRecDepth 100000
set_option maxHeartbeats 2000000
/-! all, any, min and max of texts -/
namespace L2
open PySem PySem.W PySem.Spec PyProof.Rows
section
variable {X : Cx} {prog : Program} {w : World} {A : Around} {E : Value → Shared → Prop} {s : Shared}
/-! min and max of two texts -/
def two (x y : Str) (t u : Tok) : Array Value := #[.str x t, .str y u]
end
end L2

set_option Elab.async false
set_option linter.all false
set_option maxRecDepth 100000
set_option maxHeartbeats 2000000
/-! the order of tuples, asked with < -/
namespace L2
open PySem PySem.W PySem.Spec PyProof.Rows PySem.Calls
open PySem.MeetsSeq PySem.MeetsSeq2 PySem.MeetsSeq3
theorem FVs.len {ds : List D} {us : List Value} (h : FVs ds us) : us.length = ds.length := by
  induction h with
  | nil => rfl
  | cons _ _ ih => simp [ih]
section
variable {X : Cx}
end
section
variable {K : PySem.W.Frag} {G H₀ L : Hp} {ss : List Sl} {t ta tb : TE} {d : D} {ds es : List D}
theorem Reps.bools {H : Hp} : ∀ {bs : List Bool} {vs : List V}, Reps K H (bs.map D.bl) vs → vs = bs.map V.bl
  | [], vs, h => by rw [List.map_nil, Reps] at h; exact h
  | b :: bs, vs, h => by
    rw [List.map_cons, Reps] at h
    obtain ⟨x, xs, rfl, h1, h2⟩ := h
    rw [h1.of_bl, h2.bools]; rfl
end
end L2

set_option Elab.async false
set_option linter.all false
set_option maxRecDepth 100000
set_option maxHeartbeats 2000000
/-! a def's body from its promise -/
namespace L2
open PySem PySem.W PySem.Spec PyProof.Rows
def slots (n : Nat) (ds : List D) : List Sl := ds.map Sl.d ++ List.replicate (n - ds.length) .un
section
variable {K : PySem.W.Frag} {H : Hp} {vs : List V} {Q : VK} {X : XK} {N : List Str} {t : TS} {pre : List D → Prop}
theorem sat_start {G : Hp} {ds : List D} (sm : Same G H) (r : Reps K G ds vs) (hN : vs.length ≤ N.length) : Sat K G H G G H (start N vs) (slots N.length ds) := by
  have hl := r.length
  have ads : ∀ (i : Nat) s, (slots N.length ds)[i]? = some s → s.ads = [] := fun i s hs => by
    have hm := List.mem_of_getElem? hs
    unfold slots at hm
    rcases List.mem_append.mp hm with h | h
    · obtain ⟨d, _, rfl⟩ := List.mem_map.mp h; rfl
    · rw [List.eq_of_mem_replicate h]; rfl
  refine ⟨Ext.refl sm, Same.refl _, ?_, fun i s hs => ?_, fun i s hs => by rw [ads i s hs]; exact List.nodup_nil, fun i j s s' _ hs _ p hp => by rw [ads i s hs] at hp; cases hp⟩
  · unfold start slots; simp; omega
  · by_cases hi : i < ds.length
    · have e : (slots N.length ds)[i]? = some (.d ds[i]) := by
        unfold slots
        rw [List.getElem?_append_left (by simpa using hi), List.getElem?_map, List.getElem?_eq_getElem hi]; rfl
      rw [e] at hs
      cases hs
      obtain ⟨v, hv, rv⟩ := r.get' (List.getElem?_eq_getElem hi)
      refine ⟨v, ?_, rv⟩
      unfold start
      rw [List.getD_eq_getElem?_getD, List.getElem?_append_left (by simp; omega), List.getElem?_map, hv]; rfl
    · have hm : s = .un := by
        unfold slots at hs
        rw [List.getElem?_append_right (by simp; omega)] at hs
        exact List.eq_of_mem_replicate (List.mem_of_getElem? hs)
      rw [hm]; trivial
theorem go_spO {res : List D → List D} (h : SpO K pre res vs H Q X) (hN : vs.length ≤ N.length) (body : ∀ G ds, pre ds → RtO K G H Q (res ds) → Go K G H G { nx := fun _ H' => Q .non H', rt := Q } (slots N.length ds) t) : t { nx := fun _ H' => Q .non H', rt := Q } (start N vs) H := by
  obtain ⟨G, ds, sm, r, hp, q⟩ := h
  exact body G ds hp (fun p ws F H' e h1 h2 h3 r => q p ws F H' e h1 h2 h3 r) G H _ (sat_start sm r hN)
theorem spO_len {res : List D → List D} {n : Nat} (hpre : ∀ ds, pre ds → ds.length = n) (h : SpO K pre res vs H Q X) : vs.length = n := by
  obtain ⟨G, ds, sm, r, hp, q⟩ := h
  rw [← r.length]; exact hpre ds hp
end
section
variable {K : PySem.W.Frag} {G H₀ L : Hp} {ss : List Sl} {t ta tb : TE} {d : D} {ds es : List D} {i j : Int}
end
end L2

set_option Elab.async false
set_option linter.all false
set_option maxRecDepth 100000
set_option maxHeartbeats 2000000
/-! comprehensions over coded lists -/
namespace L2
open PySem PySem.W PySem.Spec PyProof.Rows
section
variable {K : PySem.W.Frag} {G H₀ L : Hp} {ss : List Sl}
end
section
variable {K : PySem.W.Frag} {G H₀ L : Hp} {ss : List Sl} {E : Ends} {ds es : List D}
end
end L2

set_option Elab.async false
set_option linter.all false
set_option maxRecDepth 100000
set_option maxHeartbeats 4000000
/-! MY OWN: the table of a set, as mathematics: places, probes, and that a probe ends -/
namespace L2T
open PySem

/-! ### searching in a rising row -/

theorem mono_at (xs : Array Nat) (hp : xs.toList.Pairwise (· < ·)) (i k x y : Nat) (hik : i < k) (hx : xs[i]? = some x) (hy : xs[k]? = some y) : x < y := by
  rw [← Array.getElem?_toList] at hx hy
  obtain ⟨hi', hx'⟩ := List.getElem?_eq_some_iff.mp hx
  obtain ⟨hk', hy'⟩ := List.getElem?_eq_some_iff.mp hy
  have h := List.pairwise_iff_getElem.mp hp i k hi' hk' hik
  rw [hx', hy'] at h; exact h

theorem below_go (xs : Array Nat) (j : Nat) (hp : xs.toList.Pairwise (· < ·)) : ∀ (fuel lo hi : Nat), hi - lo ≤ fuel → lo ≤ hi → hi ≤ xs.size →
    (∀ i x, i < lo → xs[i]? = some x → x < j) → (∀ i x, hi ≤ i → xs[i]? = some x → j ≤ x) →
    (SetTable.below.go xs j fuel lo hi ≤ xs.size) ∧ (∀ i x, i < SetTable.below.go xs j fuel lo hi → xs[i]? = some x → x < j) ∧ (∀ i x, SetTable.below.go xs j fuel lo hi ≤ i → xs[i]? = some x → j ≤ x) := by
  intro fuel
  induction fuel with
  | zero =>
    intro lo hi hf hl hs h1 h2
    have : lo = hi := by omega
    subst this
    exact ⟨hs, h1, h2⟩
  | succ fuel ih =>
    intro lo hi hf hl hs h1 h2
    unfold SetTable.below.go
    by_cases hlt : lo < hi
    · rw [if_pos hlt]
      have hm : (lo + hi) / 2 < xs.size := by omega
      have hgm : xs[(lo + hi) / 2]? = some xs[(lo + hi) / 2] := Array.getElem?_eq_getElem hm
      have hgd : xs.getD ((lo + hi) / 2) j = xs[(lo + hi) / 2] := by simp [Array.getD, hm]
      have hmono := mono_at xs hp
      dsimp only
      rw [hgd]
      by_cases hc : xs[(lo + hi) / 2] < j
      · rw [if_pos hc]
        refine ih _ _ (by omega) (by omega) hs ?_ h2
        intro i x hi' hx
        by_cases he : i = (lo + hi) / 2
        · subst he; rw [hgm] at hx; cases hx; exact hc
        · have := hmono i ((lo + hi) / 2) x _ (by omega) hx hgm; omega
      · rw [if_neg hc]
        refine ih _ _ (by omega) (by omega) (by omega) h1 ?_
        intro i x hi' hx
        by_cases he : i = (lo + hi) / 2
        · subst he; rw [hgm] at hx; cases hx; omega
        · have := hmono ((lo + hi) / 2) i _ x (by omega) hgm hx; omega
    · rw [if_neg hlt]
      have : lo = hi := by omega
      subst this
      exact ⟨hs, h1, h2⟩

theorem below_spec (xs : Array Nat) (j : Nat) (hp : xs.toList.Pairwise (· < ·)) :
    SetTable.below xs j ≤ xs.size ∧ (∀ i x, i < SetTable.below xs j → xs[i]? = some x → x < j) ∧ (∀ i x, SetTable.below xs j ≤ i → xs[i]? = some x → j ≤ x) := by
  unfold SetTable.below
  exact below_go xs j hp xs.size 0 xs.size (by omega) (by omega) (by omega) (fun i x h => by omega) (fun i x h hx => by
    have := (Array.getElem?_eq_some_iff.mp hx).1; omega)

theorem below_mem (xs : Array Nat) (j : Nat) (hp : xs.toList.Pairwise (· < ·)) : xs[SetTable.below xs j]? = some j ↔ j ∈ xs.toList := by
  obtain ⟨h0, h1, h2⟩ := below_spec xs j hp
  constructor
  · intro h; rw [← Array.getElem?_toList] at h; exact List.mem_of_getElem? h
  · intro h
    obtain ⟨i, hi⟩ := List.mem_iff_getElem?.mp h
    rw [Array.getElem?_toList] at hi
    rcases Nat.lt_or_ge i (SetTable.below xs j) with hc | hc
    · have := h1 i j hc hi; omega
    · have hib := (Array.getElem?_eq_some_iff.mp hi).1
      have hb : SetTable.below xs j < xs.size := by omega
      have hg : xs[SetTable.below xs j]? = some xs[SetTable.below xs j] := Array.getElem?_eq_getElem hb
      have h3 := h2 _ _ (Nat.le_refl _) hg
      rcases Nat.lt_or_ge (SetTable.below xs j) i with hd | hd
      · have := mono_at xs hp _ _ _ _ hd hg hi
        omega
      · have : i = SetTable.below xs j := by omega
        rw [← this]; exact hi

theorem has_iff (xs : Array Nat) (j : Nat) (hp : xs.toList.Pairwise (· < ·)) : SetTable.has xs j = true ↔ j ∈ xs.toList := by
  unfold SetTable.has
  rw [beq_iff_eq]
  exact below_mem xs j hp

/-- a place of a rising row is known by what stands there -/
theorem below_at (xs : Array Nat) (i j : Nat) (hp : xs.toList.Pairwise (· < ·)) (h : xs[i]? = some j) : SetTable.below xs j = i := by
  have hm := (below_mem xs j hp).mpr (by rw [← Array.getElem?_toList] at h; exact List.mem_of_getElem? h)
  rw [← Array.getElem?_toList] at h hm
  obtain ⟨hi, hx⟩ := List.getElem?_eq_some_iff.mp h
  obtain ⟨hk, hy⟩ := List.getElem?_eq_some_iff.mp hm
  rcases Nat.lt_trichotomy (SetTable.below xs j) i with hc | hc | hc
  · have := List.pairwise_iff_getElem.mp hp _ _ hk hi hc; omega
  · exact hc
  · have := List.pairwise_iff_getElem.mp hp _ _ hi hk hc; omega

theorem insertAt_list {α : Type} (xs : Array α) (p : Nat) (x : α) (hp : p ≤ xs.size) : (SetTable.insertAt xs p x).toList = xs.toList.take p ++ x :: xs.toList.drop p := by
  simp [SetTable.insertAt, Array.toList_extract, List.extract, List.take_of_length_le]

theorem eraseAt_list {α : Type} (xs : Array α) (p : Nat) : (SetTable.eraseAt xs p).toList = xs.toList.take p ++ xs.toList.drop (p + 1) := by
  simp [SetTable.eraseAt, Array.toList_extract, List.extract, List.take_of_length_le]

theorem insertAt_below (xs : Array Nat) (j : Nat) (hp : xs.toList.Pairwise (· < ·)) (hj : j ∉ xs.toList) :
    (SetTable.insertAt xs (SetTable.below xs j) j).toList.Pairwise (· < ·) := by
  obtain ⟨h0, h1, h2⟩ := below_spec xs j hp
  rw [insertAt_list _ _ _ h0, List.pairwise_append, List.pairwise_cons]
  have ht : ∀ x ∈ xs.toList.take (SetTable.below xs j), x < j := by
    intro x hx
    obtain ⟨i, hi⟩ := List.mem_iff_getElem?.mp hx
    rw [List.getElem?_take] at hi
    split at hi
    · rename_i hlt; exact h1 i x hlt (by rw [← Array.getElem?_toList]; exact hi)
    · cases hi
  have hd : ∀ x ∈ xs.toList.drop (SetTable.below xs j), j < x := by
    intro x hx
    obtain ⟨i, hi⟩ := List.mem_iff_getElem?.mp hx
    rw [List.getElem?_drop] at hi
    have := h2 _ x (Nat.le_add_right _ i) (by rw [← Array.getElem?_toList]; exact hi)
    have hne : x ≠ j := fun e => hj (e ▸ List.mem_of_getElem? hi)
    omega
  refine ⟨hp.sublist (List.take_sublist _ _), ⟨hd, hp.sublist (List.drop_sublist _ _)⟩, ?_⟩
  intro x hx y hy
  rcases List.mem_cons.mp hy with rfl | hy
  · exact ht x hx
  · have := ht x hx; have := hd y hy; omega

/-! ### the slots -/

structure TOk (t : SetTable) : Prop where
  pl : t.place.toList.Pairwise (· < ·)
  du : t.dummies.toList.Pairwise (· < ·)
  ple : ∀ j ∈ t.place.toList, j ≤ t.mask
  dle : ∀ j ∈ t.dummies.toList, j ≤ t.mask
  dis : ∀ j ∈ t.dummies.toList, j ∉ t.place.toList
  pow : ∃ k, t.mask + 1 = 2 ^ (k + 3)
  big : t.mask ≤ 8191

theorem slot_live {t : SetTable} (h : TOk t) (j i : Nat) : t.slot j = .live i ↔ t.place[i]? = some j := by
  unfold SetTable.slot
  dsimp only
  by_cases hc : t.place[SetTable.below t.place j]? = some j
  · rw [if_pos (by rw [beq_iff_eq]; exact hc)]
    constructor
    · intro he; cases he; exact hc
    · intro hi; rw [below_at _ _ _ h.pl hi]
  · rw [if_neg (by rw [beq_iff_eq]; exact hc)]
    constructor
    · intro he; split at he <;> cases he
    · intro hi; exact absurd ((below_mem _ _ h.pl).mpr (by rw [← Array.getElem?_toList] at hi; exact List.mem_of_getElem? hi)) hc

theorem slot_dummy {t : SetTable} (h : TOk t) (j : Nat) : t.slot j = .dummy ↔ j ∈ t.dummies.toList := by
  unfold SetTable.slot
  dsimp only
  by_cases hc : t.place[SetTable.below t.place j]? = some j
  · rw [if_pos (by rw [beq_iff_eq]; exact hc)]
    constructor
    · intro he; cases he
    · intro hi; exact absurd ((below_mem _ _ h.pl).mp hc) (h.dis j hi)
  · rw [if_neg (by rw [beq_iff_eq]; exact hc)]
    by_cases hd : SetTable.has t.dummies j = true
    · rw [if_pos hd]; exact ⟨fun _ => (has_iff _ _ h.du).mp hd, fun _ => rfl⟩
    · rw [if_neg hd]; exact ⟨fun he => (by cases he), fun he => absurd ((has_iff _ _ h.du).mpr he) hd⟩

theorem slot_empty {t : SetTable} (h : TOk t) (j : Nat) : t.slot j = .empty ↔ (j ∉ t.place.toList ∧ j ∉ t.dummies.toList) := by
  constructor
  · intro he
    refine ⟨fun hm => ?_, fun hm => ?_⟩
    · obtain ⟨i, hi⟩ := List.mem_iff_getElem?.mp hm
      rw [Array.getElem?_toList] at hi
      rw [(slot_live h j i).mpr hi] at he; cases he
    · rw [(slot_dummy h j).mpr hm] at he; cases he
  · rintro ⟨h1, h2⟩
    cases hs : t.slot j with
    | empty => rfl
    | dummy => exact absurd ((slot_dummy h j).mp hs) h2
    | live i =>
      have := (slot_live h j i).mp hs
      rw [← Array.getElem?_toList] at this
      exact absurd (List.mem_of_getElem? this) h1

theorem len_of_all : ∀ (n : Nat) (L : List Nat), (∀ x, x < n → x ∈ L) → n ≤ L.length := by
  intro n
  induction n with
  | zero => intro L _; exact Nat.zero_le _
  | succ n ih =>
    intro L h
    have hn : n ∈ L := h n (by omega)
    have h1 := ih (L.erase n) (fun x hx => (List.mem_erase_of_ne (by omega)).mpr (h x (by omega)))
    have h2 := List.length_erase_of_mem hn
    have h3 : 0 < L.length := List.length_pos_of_mem hn
    omega

theorem some_empty {t : SetTable} (h : TOk t) (hr : t.fill ≤ t.mask) : ∃ e, e ≤ t.mask ∧ t.slot e = .empty := by
  refine Classical.byContradiction fun hc => ?_
  have hall : ∀ x, x < t.mask + 1 → x ∈ t.place.toList ++ t.dummies.toList := by
    intro x hx
    refine Classical.byContradiction fun hn => hc ⟨x, by omega, (slot_empty h x).mpr ?_⟩
    rw [List.mem_append] at hn
    exact ⟨fun a => hn (.inl a), fun a => hn (.inr a)⟩
  have := len_of_all _ _ hall
  simp only [SetTable.fill, List.length_append, Array.length_toList] at this hr
  omega

/-! ### the leaps come to every place -/

/-- the leap without its rest, unbounded -/
def lcg : Nat → Nat → Nat
  | 0, x => x
  | n + 1, x => lcg n (5 * x + 1)

theorem lcg_add (m n x : Nat) : lcg (m + n) x = lcg n (lcg m x) := by
  induction m generalizing x with
  | zero => simp [lcg]
  | succ m ih => rw [Nat.succ_add]; exact ih _

theorem lcg_pow : ∀ k, ∃ u v, ∀ x, lcg (2 ^ k) x = (1 + 2 ^ (k + 2) * u) * x + 2 ^ k * (2 * v + 1) := by
  intro k
  induction k with
  | zero => exact ⟨1, 0, fun x => by simp [lcg]⟩
  | succ k ih =>
    obtain ⟨u, v, h⟩ := ih
    refine ⟨u + 2 ^ (k + 1) * u * u, v + 2 ^ k * u * (2 * v + 1), fun x => ?_⟩
    have e : 2 ^ (k + 1) = 2 ^ k + 2 ^ k := by omega
    conv => lhs; rw [e]
    rw [lcg_add, h, h]
    have e1 : 2 ^ (k + 2) = 4 * 2 ^ k := by rw [Nat.pow_succ, Nat.pow_succ]; omega
    have e2 : 2 ^ (k + 1 + 2) = 8 * 2 ^ k := by rw [Nat.pow_succ, Nat.pow_succ, Nat.pow_succ]; omega
    rw [e1, e2, e]
    generalize 2 ^ k = a
    grind

theorem lcg_all : ∀ k x e, ∃ s, s < 2 ^ k ∧ lcg s x % 2 ^ k = e % 2 ^ k := by
  intro k
  induction k with
  | zero => intro x e; exact ⟨0, by simp, by simp [Nat.mod_one]⟩
  | succ k ih =>
    intro x e
    obtain ⟨s, hs, he⟩ := ih x e
    have e2 : 2 ^ (k + 1) = 2 * 2 ^ k := by omega
    have hpos : 0 < 2 ^ k := Nat.two_pow_pos k
    by_cases hc : lcg s x % 2 ^ (k + 1) = e % 2 ^ (k + 1)
    · exact ⟨s, by omega, hc⟩
    · refine ⟨s + 2 ^ k, by omega, ?_⟩
      rw [lcg_add]
      obtain ⟨u, v, h⟩ := lcg_pow k
      rw [h]
      generalize lcg s x = y at *
      have h3 : (1 + 2 ^ (k + 2) * u) * y + 2 ^ k * (2 * v + 1) = y + 2 ^ k + 2 ^ (k + 1) * (2 * u * y + v) := by
        have e1 : 2 ^ (k + 2) = 4 * 2 ^ k := by rw [Nat.pow_succ, Nat.pow_succ]; omega
        rw [e1, e2]; generalize 2 ^ k = a; grind
      rw [h3, Nat.add_mul_mod_self_left, e2]
      rw [e2] at hc
      generalize ha : 2 ^ k = a at *
      -- y ≡ e mod a, not mod 2a
      have hy := Nat.mod_add_div y a
      have hE := Nat.mod_add_div e a
      rw [he] at hy
      generalize y / a = p at *
      generalize e / a = q at *
      generalize hr : e % a = r at *
      have hra : r < a := by rw [← hr]; exact Nat.mod_lt _ hpos
      subst hy
      have h5 : ∀ z, (r + a * z) % (2 * a) = if z % 2 = 0 then r else r + a := by
        intro z
        have hz := Nat.mod_add_div z 2
        have h6 : r + a * z = r + a * (z % 2) + (2 * a) * (z / 2) := by
          conv => lhs; rw [← hz]
          generalize z % 2 = z1; generalize z / 2 = z2; grind
        rw [h6, Nat.add_mul_mod_self_left]
        rcases Nat.mod_two_eq_zero_or_one z with h7 | h7
        · rw [h7, if_pos rfl]; simp; exact Nat.mod_eq_of_lt (by omega)
        · rw [h7, if_neg (by omega)]; simp; exact Nat.mod_eq_of_lt (by omega)
      have h7 : r + a * p + a = r + a * (p + 1) := by grind
      rw [← hE] at hc ⊢
      rw [h7, h5, h5]
      rw [h5, h5] at hc
      by_cases hp2 : p % 2 = 0 <;> by_cases hq2 : q % 2 = 0 <;> simp only [hp2, hq2, if_true, if_false] at hc <;>
        (have : (p + 1) % 2 = 0 ∨ (p + 1) % 2 = 1 := Nat.mod_two_eq_zero_or_one _) <;> grind

end L2T

set_option Elab.async false
set_option linter.all false
set_option maxRecDepth 100000
set_option maxHeartbeats 4000000
/-! MY OWN: the probes of a table, one after the other -/
namespace L2T
open PySem SetTable

def advM (mask : Nat) (p : Probe) : Probe :=
  if p.more > 0 then { p with j := p.j + 1, more := p.more - 1 } else
  let (i, perturb) := leap mask p.i p.perturb
  { p with j := i, more := runEnd mask i - i, i, perturb }
theorem advance_eq (t : SetTable) (p : Probe) : t.advance p = advM t.mask p := rfl

def stM (mask i perturb : Nat) : Probe := { j := i, more := runEnd mask i - i, i, perturb, dummy := none }
def prM (mask : Nat) (h : Int) : Nat → Probe
  | 0 => stM mask (bits h % (mask + 1)) (bits h)
  | n + 1 => advM mask (prM mask h n)
def posM (mask : Nat) (h : Int) (n : Nat) : Nat := (prM mask h n).j

/-- the leaps -/
def lpM (mask : Nat) (h : Int) : Nat → Nat × Nat
  | 0 => (bits h % (mask + 1), bits h)
  | m + 1 => leap mask (lpM mask h m).1 (lpM mask h m).2
def lpS (mask : Nat) (h : Int) (m : Nat) : Probe := stM mask (lpM mask h m).1 (lpM mask h m).2

theorem adv_run (mask : Nat) : ∀ (r : Nat) (p : Probe) (F : Nat → Probe), (∀ n, F (n + 1) = advM mask (F n)) → F 0 = p → r ≤ p.more → F r = { p with j := p.j + r, more := p.more - r } := by
  intro r
  induction r with
  | zero => intro p F hF h0 hr; rw [h0]; rfl
  | succ r ih =>
    intro p F hF h0 hr
    rw [hF, ih p F hF h0 (by omega)]
    unfold advM
    rw [if_pos (by show p.more - r > 0; omega)]
    show ({ p with j := p.j + r + 1, more := p.more - r - 1 } : Probe) = _
    congr 1

theorem runEnd_le (mask i : Nat) : runEnd mask i - i ≤ 9 := by unfold runEnd; split <;> omega

theorem pr_next (mask : Nat) (h : Int) (n m : Nat) (hs : prM mask h n = lpS mask h m) :
    prM mask h (n + (runEnd mask (lpM mask h m).1 - (lpM mask h m).1) + 1) = lpS mask h (m + 1) ∧
    ∀ r, r ≤ runEnd mask (lpM mask h m).1 - (lpM mask h m).1 → posM mask h (n + r) = (lpM mask h m).1 + r := by
  have hrun := fun r hr => adv_run mask r (lpS mask h m) (fun k => prM mask h (n + k)) (fun k => rfl) hs hr
  refine ⟨?_, fun r hr => ?_⟩
  · show advM mask (prM mask h (n + (runEnd mask (lpM mask h m).1 - (lpM mask h m).1))) = _
    rw [hrun (runEnd mask (lpM mask h m).1 - (lpM mask h m).1) (Nat.le_refl _)]
    unfold advM
    rw [if_neg (by show ¬ (lpS mask h m).more - (runEnd mask (lpM mask h m).1 - (lpM mask h m).1) > 0; show ¬ (runEnd mask (lpM mask h m).1 - (lpM mask h m).1) - (runEnd mask (lpM mask h m).1 - (lpM mask h m).1) > 0; omega)]
    rfl
  · unfold posM
    rw [hrun r hr]; rfl

theorem pr_leap (mask : Nat) (h : Int) : ∀ m, ∃ n, n ≤ 10 * m ∧ prM mask h n = lpS mask h m := by
  intro m
  induction m with
  | zero => exact ⟨0, by omega, rfl⟩
  | succ m ih =>
    obtain ⟨n, hn, he⟩ := ih
    have := runEnd_le mask (lpM mask h m).1
    exact ⟨_, by omega, (pr_next mask h n m he).1⟩

theorem bits_lt (h : Int) : bits h < 2 ^ 64 := by
  unfold bits
  have : h % (2 ^ 64 : Int) < 2 ^ 64 := Int.emod_lt_of_pos _ (by decide)
  omega

theorem lp_per (mask : Nat) (h : Int) : ∀ m, (lpM mask h m).2 = bits h / 32 ^ m := by
  intro m
  induction m with
  | zero => simp [lpM]
  | succ m ih => show (lpM mask h m).2 / 32 = _; rw [ih, Nat.div_div_eq_div_mul, Nat.pow_succ]

theorem lp_per0 (mask : Nat) (h : Int) (m : Nat) (hm : 13 ≤ m) : (lpM mask h m).2 = 0 := by
  rw [lp_per]
  have h1 := bits_lt h
  have h2 : 32 ^ 13 ≤ 32 ^ m := Nat.pow_le_pow_right (by decide) hm
  exact Nat.div_eq_of_lt (by have : (32 : Nat) ^ 13 = 2 ^ 65 := by decide
                             omega)

theorem lp_lt (mask : Nat) (h : Int) (m : Nat) : (lpM mask h m).1 < mask + 1 := by
  cases m with
  | zero => exact Nat.mod_lt _ (by omega)
  | succ m => exact Nat.mod_lt _ (by omega)

theorem lp_lcg (mask : Nat) (h : Int) : ∀ s, (lpM mask h (13 + s)).1 = lcg s (lpM mask h 13).1 % (mask + 1) := by
  intro s
  induction s with
  | zero => exact (Nat.mod_eq_of_lt (lp_lt mask h 13)).symm
  | succ s ih =>
    show ((lpM mask h (13 + s)).1 * 5 + 1 + (lpM mask h (13 + s)).2 / 32) % (mask + 1) = _
    rw [lp_per0 mask h (13 + s) (by omega), ih, lcg_add]
    show _ = (5 * lcg s (lpM mask h 13).1 + 1) % (mask + 1)
    generalize lcg s (lpM mask h 13).1 = y
    simp [Nat.add_mod, Nat.mul_mod, Nat.mul_comm]

theorem lp_all (mask k : Nat) (hk : mask + 1 = 2 ^ k) (h : Int) (e : Nat) (he : e ≤ mask) : ∃ m, m ≤ 13 + mask ∧ (lpM mask h m).1 = e := by
  obtain ⟨s, hs, hl⟩ := lcg_all k (lpM mask h 13).1 e
  refine ⟨13 + s, by omega, ?_⟩
  rw [lp_lcg, hk, hl, ← hk]
  exact Nat.mod_eq_of_lt (by omega)

theorem pos_all (mask k : Nat) (hk : mask + 1 = 2 ^ k) (h : Int) (e : Nat) (he : e ≤ mask) : ∃ n, n < 10 * turns mask ∧ posM mask h n = e := by
  obtain ⟨m, hm, hl⟩ := lp_all mask k hk h e he
  obtain ⟨n, hn, hp⟩ := pr_leap mask h m
  refine ⟨n, by unfold turns; omega, ?_⟩
  unfold posM; rw [hp]; exact hl

/-! ### one probe -/

def SameP (p q : Probe) : Prop := p.j = q.j ∧ p.more = q.more ∧ p.i = q.i ∧ p.perturb = q.perturb

theorem same_adv (mask : Nat) {p q : Probe} (h : SameP p q) : SameP (advM mask p) (advM mask q) := by
  obtain ⟨h1, h2, h3, h4⟩ := h
  unfold advM
  rw [h2, h3, h4, h1]
  split
  · exact ⟨rfl, rfl, rfl, rfl⟩
  · exact ⟨rfl, rfl, rfl, rfl⟩

theorem adv_dummy (mask : Nat) (p : Probe) : (advM mask p).dummy = p.dummy := by
  unfold advM; split <;> rfl

theorem probe_go (t : SetTable) (hashAt : Nat → Int) (h : Int) : ∀ (fuel : Nat) (p : Probe) (n : Nat), SameP p (prM t.mask h n) →
    (∃ N, n ≤ N ∧ N < n + fuel ∧ t.slot (posM t.mask h N) = .empty) →
    ∃ m, n ≤ m ∧ (∀ q, n ≤ q → q < m → t.slot (posM t.mask h q) ≠ .empty ∧ ∀ i, t.slot (posM t.mask h q) = .live i → hashAt i ≠ h) ∧
      ∃ d, (d = p.dummy ∨ ∃ q, n ≤ q ∧ q < m ∧ d = some (posM t.mask h q) ∧ t.slot (posM t.mask h q) = .dummy) ∧
      ((t.slot (posM t.mask h m) = .empty ∧ probe.go t hashAt h fuel p = some (.empty (posM t.mask h m) d)) ∨
       (∃ i nx, t.slot (posM t.mask h m) = .live i ∧ hashAt i = h ∧ probe.go t hashAt h fuel p = some (.candidate (posM t.mask h m) i nx) ∧ SameP nx (prM t.mask h (m + 1)) ∧ nx.dummy = d)) := by
  intro fuel
  induction fuel with
  | zero => rintro p n hs ⟨N, h1, h2, _⟩; omega
  | succ fuel ih =>
    rintro p n hs ⟨N, h1, h2, h3⟩
    have hj : p.j = posM t.mask h n := hs.1
    unfold probe.go
    rw [hj]
    cases hsl : t.slot (posM t.mask h n) with
    | empty =>
      exact ⟨n, Nat.le_refl _, fun q a b => by omega, p.dummy, .inl rfl, .inl ⟨hsl, rfl⟩⟩
    | dummy =>
      have hN : N ≠ n := fun e => by subst e; rw [hsl] at h3; cases h3
      have hs' : SameP (t.advance { p with dummy := some (posM t.mask h n) }) (prM t.mask h (n + 1)) := by
        rw [advance_eq]; exact same_adv _ (p := { p with dummy := some (posM t.mask h n) }) ⟨hs.1, hs.2.1, hs.2.2.1, hs.2.2.2⟩
      obtain ⟨m, hm, hq, d, hd, hr⟩ := ih _ (n + 1) hs' ⟨N, by omega, by omega, h3⟩
      refine ⟨m, by omega, ?_, d, ?_, ?_⟩
      · intro q a b
        rcases Nat.eq_or_lt_of_le a with e | e
        · subst e; exact ⟨(by rw [hsl]; exact fun x => (by cases x)), fun i hi => by rw [hsl] at hi; cases hi⟩
        · exact hq q e b
      · rcases hd with hd | ⟨q, a, b, c, e⟩
        · refine .inr ⟨n, Nat.le_refl _, by omega, ?_, hsl⟩
          rw [hd, advance_eq, adv_dummy]
        · exact .inr ⟨q, by omega, b, c, e⟩
      · rw [hj] at hr; exact hr
    | live i =>
      dsimp only
      by_cases hh : hashAt i = h
      · refine ⟨n, Nat.le_refl _, fun q a b => by omega, p.dummy, .inl rfl, .inr ⟨i, t.advance p, hsl, hh, ?_, ?_, ?_⟩⟩
        · rw [if_pos (by rw [hh]; exact beq_self_eq_true h)]
        · rw [advance_eq]; exact same_adv _ hs
        · rw [advance_eq, adv_dummy]
      · have hN : N ≠ n := fun e => by subst e; rw [hsl] at h3; cases h3
        obtain ⟨m, hm, hq, d, hd, hr⟩ := ih (t.advance p) (n + 1) (by rw [advance_eq]; exact same_adv _ hs) ⟨N, by omega, by omega, h3⟩
        refine ⟨m, by omega, ?_, d, ?_, ?_⟩
        · intro q a b
          rcases Nat.eq_or_lt_of_le a with e | e
          · subst e; exact ⟨(by rw [hsl]; exact fun x => (by cases x)), fun i' hi => by rw [hsl] at hi; cases hi; exact hh⟩
          · exact hq q e b
        · rcases hd with hd | ⟨q, a, b, c, e⟩
          · exact .inl (by rw [hd, advance_eq, adv_dummy])
          · exact .inr ⟨q, by omega, b, c, e⟩
        · rw [if_neg (by rw [beq_iff_eq]; exact hh)]; exact hr

/-- a slot that a search by this hash comes to -/
def Reach (t : SetTable) (h : Int) (j : Nat) : Prop := ∃ n, posM t.mask h n = j ∧ ∀ m, m < n → t.slot (posM t.mask h m) ≠ .empty

theorem pos_le (mask k : Nat) (hk : mask + 1 = 2 ^ k) (h : Int) : ∀ n, posM mask h n ≤ mask := by
  have key : ∀ n, (prM mask h n).j + (prM mask h n).more ≤ mask := by
    intro n
    have hst : ∀ i p, i < mask + 1 → (stM mask i p).j + (stM mask i p).more ≤ mask := by
      intro i p hi; show i + (runEnd mask i - i) ≤ mask; unfold runEnd; split <;> omega
    induction n with
    | zero => exact hst _ _ (Nat.mod_lt _ (by omega))
    | succ n ih =>
      show (advM mask (prM mask h n)).j + (advM mask (prM mask h n)).more ≤ mask
      unfold advM
      split
      · show (prM mask h n).j + 1 + ((prM mask h n).more - 1) ≤ mask; omega
      · exact hst _ (leap mask (prM mask h n).i (prM mask h n).perturb).2 (Nat.mod_lt _ (by omega))
  intro n
  have := key n
  unfold posM; omega

end L2T

set_option Elab.async false
set_option linter.all false
set_option maxRecDepth 100000
set_option maxHeartbeats 4000000
/-! MY OWN: a table laid anew, a slot filled, a slot given up -/
namespace L2T
open PySem SetTable

/-- the table stands for these elements -/
structure SOk {α : Type} (t : SetTable) (es : List (Int × α)) : Prop where
  ok : TOk t
  room : t.fill * 5 < t.mask * 3
  size : t.place.size = es.length
  reach : ∀ c ∈ t.place.toList.zip es, Reach t c.2.1 c.1

/-! ### laid clean -/

theorem free_spec (mask : Nat) (owner : Array (Option Nat)) (h : Int) : ∀ (fuel m n : Nat), prM mask h n = lpS mask h m →
    (∀ q, q < n → owner.getD (posM mask h q) (some 0) ≠ none) → (∃ M, m ≤ M ∧ M < m + fuel ∧ owner.getD (lpM mask h M).1 (some 0) = none) →
    ∃ j n', layClean.free mask owner fuel (lpM mask h m).1 (lpM mask h m).2 = some j ∧ posM mask h n' = j ∧ owner.getD j (some 0) = none ∧ ∀ q, q < n' → owner.getD (posM mask h q) (some 0) ≠ none := by
  intro fuel
  induction fuel with
  | zero => rintro m n hs hq ⟨M, a, b, c⟩; omega
  | succ fuel ih =>
    rintro m n hs hq ⟨M, a, b, c⟩
    obtain ⟨hnx, hrun⟩ := pr_next mask h n m hs
    unfold layClean.free
    cases hf : (List.range (runEnd mask (lpM mask h m).1 + 1 - (lpM mask h m).1)).find? (fun k => (owner.getD ((lpM mask h m).1 + k) (some 0)).isNone) with
    | some k =>
      obtain ⟨h1, h2, h3⟩ := List.find?_range_eq_some.mp hf
      rw [List.mem_range] at h2
      dsimp only
      refine ⟨_, n + k, rfl, hrun k (by omega), by simpa using h1, ?_⟩
      intro q hqq
      rcases Nat.lt_or_ge q n with hl | hl
      · exact hq q hl
      · have := h3 (q - n) (by omega)
        have e := hrun (q - n) (by omega)
        rw [show n + (q - n) = q by omega] at e
        rw [e]
        intro hc; rw [hc] at this; simp at this
    | none =>
      rw [List.find?_eq_none] at hf
      have hocc : ∀ k, k ≤ runEnd mask (lpM mask h m).1 - (lpM mask h m).1 → owner.getD ((lpM mask h m).1 + k) (some 0) ≠ none := by
        intro k hk hc
        have hle : (lpM mask h m).1 ≤ runEnd mask (lpM mask h m).1 := by unfold runEnd; split <;> omega
        exact hf k (List.mem_range.mpr (by omega)) (by rw [hc]; rfl)
      have hM : M ≠ m := fun e => by subst e; exact hocc 0 (Nat.zero_le _) c
      dsimp only
      refine ih (m + 1) _ hnx ?_ ⟨M, by omega, by omega, c⟩
      intro q hqq
      rcases Nat.lt_or_ge q n with hl | hl
      · exact hq q hl
      · have e := hrun (q - n) (by omega)
        rw [show n + (q - n) = q by omega] at e
        rw [e]
        exact hocc _ (by omega)

theorem fm_congr {α β : Type} {f g : α → Option β} : ∀ l : List α, (∀ x ∈ l, f x = g x) → l.filterMap f = l.filterMap g := by
  intro l
  induction l with
  | nil => intro _; rfl
  | cons x l ih => intro h; simp only [List.filterMap_cons, h x (.head _), ih (fun y hy => h y (.tail _ hy))]

theorem fm_range {α : Type} : ∀ l : List α, (List.range l.length).filterMap (fun i => l[i]?) = l := by
  intro l
  induction l with
  | nil => rfl
  | cons x l ih =>
    rw [List.length_cons, List.range_succ_eq_map, List.filterMap_cons_some (b := x) (by rfl), List.filterMap_map]
    congr 1

def lives (mask : Nat) (owner : Array (Option Nat)) : List (Nat × Nat) := (List.range (mask + 1)).filterMap fun j => (owner.getD j none).map (j, ·)

theorem fm_one {α β : Type} [DecidableEq α] (f f' : α → Option β) (x : α) (v : β) (h0 : f x = none) (h1 : f' x = some v) (h2 : ∀ y, y ≠ x → f' y = f y) :
    ∀ l : List α, l.Nodup → x ∈ l → (l.filterMap f').Perm (v :: l.filterMap f) := by
  intro l
  induction l with
  | nil => intro _ h; cases h
  | cons y l ih =>
    intro hn hx
    rw [List.nodup_cons] at hn
    by_cases he : y = x
    · subst he
      rw [List.filterMap_cons_some h1, List.filterMap_cons_none h0]
      have : l.filterMap f' = l.filterMap f := by
        refine fm_congr _ fun z hz => h2 z (fun e => hn.1 (e ▸ hz))
      rw [this]
    · have hx' : x ∈ l := by rcases List.mem_cons.mp hx with e | e; exact absurd e.symm he; exact e
      have hi := ih hn.2 hx'
      cases hf : f y with
      | none => rw [List.filterMap_cons_none (by rw [h2 y he]; exact hf), List.filterMap_cons_none hf]; exact hi
      | some b =>
        rw [List.filterMap_cons_some (by rw [h2 y he]; exact hf), List.filterMap_cons_some hf]
        exact (hi.cons b).trans (List.Perm.swap _ _ _)

theorem fm_len {α β : Type} (f : α → Option β) : ∀ l : List α, (∀ x ∈ l, f x ≠ none) → (l.filterMap f).length = l.length := by
  intro l
  induction l with
  | nil => intro _; rfl
  | cons x l ih =>
    intro h
    cases hf : f x with
    | none => exact absurd hf (h x (.head _))
    | some b => rw [List.filterMap_cons_some hf, List.length_cons, List.length_cons, ih (fun y hy => h y (.tail _ hy))]

structure LInv (mask : Nat) (hs : List Int) (owner : Array (Option Nat)) : Prop where
  size : owner.size = mask + 1
  perm : ((lives mask owner).map (·.2)).Perm (List.range hs.length)
  reach : ∀ j i, owner.getD j none = some i → ∃ h, hs[i]? = some h ∧ ∃ n, posM mask h n = j ∧ ∀ q, q < n → owner.getD (posM mask h q) (some 0) ≠ none

theorem getD_set (owner : Array (Option Nat)) (j k x : Nat) (d : Option Nat) (hj : j < owner.size) : (owner.setIfInBounds j (some k)).getD x d = if x = j then some k else owner.getD x d := by
  simp only [Array.getD_eq_getD_getElem?, Array.getElem?_setIfInBounds]
  by_cases h : x = j
  · subst h; simp [hj]
  · rw [if_neg (fun e => h e.symm), if_neg h]

theorem getD_two (owner : Array (Option Nat)) (j : Nat) (hj : j < owner.size) : owner.getD j (some 0) = owner.getD j none := by
  simp [Array.getD, hj]

theorem lay_step (mask k : Nat) (hk : mask + 1 = 2 ^ k) (hs : List Int) (owner : Array (Option Nat)) (h : Int) (inv : LInv mask hs owner) (hroom : hs.length < mask + 1) :
    ∃ j, layClean.free mask owner (turns mask) (bits h % (mask + 1)) (bits h) = some j ∧ LInv mask (hs ++ [h]) (owner.setIfInBounds j (some hs.length)) := by
  have hex : ∃ e, e ≤ mask ∧ owner.getD e none = none := by
    refine Classical.byContradiction fun hc => ?_
    have hl := fm_len (fun j => (owner.getD j none).map (fun i => (j, i))) (List.range (mask + 1)) (fun x hx hn => hc ⟨x, by have := List.mem_range.mp hx; omega, by simpa using hn⟩)
    have hp := inv.perm.length_eq
    rw [List.length_map] at hp
    unfold lives at hp
    rw [hl] at hp
    simp at hp; omega
  obtain ⟨e, he, hn⟩ := hex
  obtain ⟨M, hM, hMe⟩ := lp_all mask k hk h e he
  obtain ⟨j, n', hf, hp, hj, hq⟩ := free_spec mask owner h (turns mask) 0 0 rfl (fun q hq => by omega)
    ⟨M, by omega, by unfold turns; omega, by rw [hMe, getD_two _ _ (by rw [inv.size]; omega)]; exact hn⟩
  have hjm : j ≤ mask := by rw [← hp]; exact pos_le mask k hk h n'
  have hjs : j < owner.size := by rw [inv.size]; omega
  refine ⟨j, hf, ?_, ?_, ?_⟩
  · simp [inv.size]
  · have hone : (lives mask (owner.setIfInBounds j (some hs.length))).Perm ((j, hs.length) :: lives mask owner) := by
      unfold lives
      refine fm_one _ _ j (j, hs.length) ?_ ?_ ?_ _ List.nodup_range (List.mem_range.mpr (by omega))
      · rw [← getD_two _ _ hjs, hj]; rfl
      · rw [getD_set _ _ _ _ _ hjs, if_pos rfl]; rfl
      · intro y hy; rw [getD_set _ _ _ _ _ hjs, if_neg hy]
    refine (hone.map _).trans ?_
    rw [List.map_cons, List.length_append, List.length_singleton, List.range_succ]
    exact ((List.Perm.cons _ inv.perm)).trans (List.perm_append_comm (l₁ := [hs.length]))
  · intro x i hx
    rw [getD_set _ _ _ _ _ hjs] at hx
    have hne : ∀ y, owner.getD y (some 0) ≠ none → (owner.setIfInBounds j (some hs.length)).getD y (some 0) ≠ none := by
      intro y hy; rw [getD_set _ _ _ _ _ hjs]; split
      · exact fun c => by cases c
      · exact hy
    by_cases hxj : x = j
    · rw [if_pos hxj] at hx
      cases hx
      refine ⟨h, by simp, n', by rw [hp, hxj], fun q hqq => hne _ (hq q hqq)⟩
    · rw [if_neg hxj] at hx
      obtain ⟨h', e1, n, e2, e3⟩ := inv.reach x i hx
      refine ⟨h', ?_, n, e2, fun q hqq => hne _ (e3 q hqq)⟩
      rw [List.getElem?_append_left (List.getElem?_eq_some_iff.mp e1).1]; exact e1

theorem lay_fold (mask k : Nat) (hk : mask + 1 = 2 ^ k) : ∀ (hs done : List Int) (owner : Array (Option Nat)), LInv mask done owner → (done ++ hs).length ≤ mask →
    ∃ owner', hs.foldl (fun acc h => do
        let (owner, k) ← acc
        let j ← layClean.free mask owner (turns mask) (bits h % (mask + 1)) (bits h)
        pure (owner.setIfInBounds j (some k), k + 1)) (some (owner, done.length)) = some (owner', (done ++ hs).length) ∧ LInv mask (done ++ hs) owner' := by
  intro hs
  induction hs with
  | nil => intro done owner inv _; exact ⟨owner, by simp, by simpa using inv⟩
  | cons h hs ih =>
    intro done owner inv hl
    obtain ⟨j, hf, inv'⟩ := lay_step mask k hk done owner h inv (by simp at hl; omega)
    obtain ⟨ow, h1, h2⟩ := ih (done ++ [h]) _ inv' (by simpa using hl)
    refine ⟨ow, ?_, by simpa using h2⟩
    rw [List.foldl_cons]
    simp only [Option.bind_eq_bind, Option.bind_some, hf, Option.pure_def]
    rw [show (done ++ h :: hs).length = (done ++ [h] ++ hs).length by simp, ← h1]
    simp

theorem lay_clean (mask k : Nat) (hk : mask + 1 = 2 ^ k) (hs : Array Int) (hl : hs.size ≤ mask) : ∃ owner, layClean mask hs = some owner ∧ LInv mask hs.toList owner := by
  obtain ⟨ow, h1, h2⟩ := lay_fold mask k hk hs.toList [] (Array.replicate (mask + 1) none) ⟨by simp, by
      have : lives mask (Array.replicate (mask + 1) none) = [] := by
        unfold lives
        rw [List.filterMap_eq_nil_iff]
        intro x hx
        simp [Array.getD_eq_getD_getElem?, Array.getElem?_replicate]
        split <;> simp
      rw [this]; simp, fun j i h => by
      simp [Array.getD_eq_getD_getElem?, Array.getElem?_replicate] at h
      split at h <;> simp at h⟩ (by simpa using hl)
  refine ⟨ow, ?_, by simpa using h2⟩
  unfold layClean
  rw [← Array.foldl_toList]
  rw [show (([] : List Int).length) = 0 from rfl] at h1
  rw [h1]; rfl

theorem lives_fst (g : Nat → Option Nat) : ∀ l : List Nat, ((l.filterMap fun j => (g j).map (j, ·)).map (·.1)).Sublist l := by
  intro l
  induction l with
  | nil => exact List.Sublist.slnil
  | cons x l ih =>
    cases hg : g x with
    | none => rw [List.filterMap_cons_none (by rw [hg]; rfl)]; exact ih.cons x
    | some v => rw [List.filterMap_cons_some (b := (x, v)) (by rw [hg]; rfl)]; exact ih.cons_cons x

theorem zip_fm {α : Type} (g : Nat → Option α) : ∀ L : List (Nat × Nat), (∀ p ∈ L, g p.2 ≠ none) → ∀ c ∈ (L.map (·.1)).zip ((L.map (·.2)).filterMap g), ∃ p ∈ L, c.1 = p.1 ∧ g p.2 = some c.2 := by
  intro L
  induction L with
  | nil => intro _ c hc; simp at hc
  | cons p L ih =>
    intro h c hc
    cases hg : g p.2 with
    | none => exact absurd hg (h p (.head _))
    | some v =>
      rw [List.map_cons, List.map_cons, List.filterMap_cons_some hg, List.zip_cons_cons] at hc
      rcases List.mem_cons.mp hc with e | e
      · exact ⟨p, .head _, by rw [e], by rw [e]; exact hg⟩
      · obtain ⟨p', h1, h2⟩ := ih (fun q hq => h q (.tail _ hq)) c e
        exact ⟨p', .tail _ h1, h2⟩

theorem laid_ok {α : Type} (mask k : Nat) (hk : mask + 1 = 2 ^ (k + 3)) (hb : mask ≤ 8191) (finger moves : Nat) (led plain : Bool) (es : Array (Int × α)) (hroom : es.size * 5 < mask * 3) :
    ∃ t order, laid mask finger moves led plain (es.map (·.1)) = some (t, order) ∧ t.mask = mask ∧ t.dummies = #[] ∧ t.led = led ∧ t.plain = plain ∧ t.finger = finger ∧ t.moves = moves ∧
      order.toList.Perm (List.range es.size) ∧ (order.filterMap (es[·]?)).toList.Perm es.toList ∧ (order.filterMap (es[·]?)).size = es.size ∧ SOk t (order.filterMap (es[·]?)).toList := by
  obtain ⟨ow, h1, inv⟩ := lay_clean mask _ hk (es.map (·.1)) (by simp; omega)
  have hlen : (es.map (·.1)).toList.length = es.size := by simp
  have hperm := inv.perm
  rw [hlen] at hperm
  unfold laid
  rw [h1]
  have hL : (List.range (mask + 1)).filterMap (fun j => (ow.getD j none).map (j, ·)) = lives mask ow := rfl
  simp only [Option.bind_eq_bind, Option.bind_some, Option.pure_def, hL]
  refine ⟨_, _, rfl, rfl, rfl, rfl, rfl, rfl, rfl, hperm, ?_⟩
  have hlist : ((((lives mask ow).map (·.2)).toArray).filterMap (es[·]?)).toList = ((lives mask ow).map (·.2)).filterMap (es[·]?) := by simp
  have hp2 : ((((lives mask ow).map (·.2)).toArray).filterMap (es[·]?)).toList.Perm es.toList := by
    rw [hlist]
    refine (hperm.filterMap _).trans ?_
    have : (List.range es.size).filterMap (fun i => es[i]?) = es.toList := by
      have h := fm_range es.toList
      rw [Array.length_toList] at h
      rw [← h]
      refine fm_congr _ fun x _ => (Array.getElem?_toList ..).symm ▸ ?_
      simp
    rw [this]
  refine ⟨hp2, ?_, ?_⟩
  · rw [← Array.length_toList, hp2.length_eq, Array.length_toList]
  · have hsub := lives_fst (fun j => ow.getD j none) (List.range (mask + 1))
    have htok : TOk { mask := mask, place := ((lives mask ow).map (·.1)).toArray, dummies := #[], finger := finger, led := led, moves := moves, plain := plain } := by
      refine ⟨?_, by simp, ?_, by simp, by simp, ⟨k, hk⟩, hb⟩
      · show (((lives mask ow).map (·.1)).toArray).toList.Pairwise (· < ·)
        exact List.Pairwise.sublist hsub List.pairwise_lt_range
      · intro j hj
        have := hsub.subset hj
        rw [List.mem_range] at this
        show j ≤ mask; omega
    have hmem : ∀ j, ow.getD j none ≠ none → j ∈ (lives mask ow).map (·.1) := by
      intro j hj
      have hjs : j < ow.size := by
        refine Nat.lt_of_not_le fun c => hj ?_
        simp [Array.getD, Nat.not_lt.mpr c]
      cases hg : ow.getD j none with
      | none => exact absurd hg hj
      | some i => exact List.mem_map.mpr ⟨(j, i), List.mem_filterMap.mpr ⟨j, List.mem_range.mpr (by rw [← inv.size]; exact hjs), by rw [hg]; rfl⟩, rfl⟩
    have hlt : ∀ p ∈ lives mask ow, ow.getD p.1 none = some p.2 := by
      intro p hp
      obtain ⟨j, _, hj⟩ := List.mem_filterMap.mp hp
      cases hg : ow.getD j none with
      | none => rw [hg] at hj; cases hj
      | some i => rw [hg] at hj; cases hj; exact hg
    have hin : ∀ p ∈ lives mask ow, p.2 < es.size := by
      intro p hp
      have : p.2 ∈ (lives mask ow).map (·.2) := List.mem_map.mpr ⟨p, hp, rfl⟩
      exact List.mem_range.mp (hperm.mem_iff.mp this)
    refine ⟨htok, ?_, ?_, ?_⟩
    · show (((lives mask ow).map (·.1)).toArray.size + 0) * 5 < mask * 3
      have := hperm.length_eq
      simp at this ⊢
      rw [this]; exact hroom
    · rw [hp2.length_eq]
      have := hperm.length_eq
      simp at this ⊢
      exact this
    · intro c hc
      rw [hlist] at hc
      obtain ⟨p, hp, e1, e2⟩ := zip_fm (fun i => es[i]?) (lives mask ow) (fun p hp => by
        rw [Array.getElem?_eq_getElem (hin p hp)]; exact fun c => by cases c) c hc
      obtain ⟨h', a1, n, a2, a3⟩ := inv.reach p.1 p.2 (hlt p hp)
      have hh : h' = c.2.1 := by
        rw [Array.toList_map, List.getElem?_map, Array.getElem?_toList, e2] at a1
        simpa using a1.symm
      subst hh
      refine ⟨n, by rw [e1]; exact a2, fun m hm hc => ?_⟩
      have := (slot_empty htok _).mp hc
      refine this.1 (hmem _ ?_)
      have h3 := a3 m hm
      rwa [getD_two _ _ (by rw [inv.size]; exact Nat.lt_succ_of_le (pos_le mask _ hk _ _))] at h3
end L2T

set_option Elab.async false
set_option linter.all false
set_option maxRecDepth 100000
set_option maxHeartbeats 4000000
/-! MY OWN: a slot filled, a slot given up, a table laid anew by its size -/
namespace L2T
open PySem SetTable

theorem slot_alike (t t' : SetTable) (h1 : t'.place = t.place) (h2 : t'.dummies = t.dummies) (j : Nat) : t'.slot j = t.slot j := by
  unfold slot; rw [h1, h2]

theorem reach_mono {t t' : SetTable} (hm : t'.mask = t.mask) (h : ∀ j, t.slot j ≠ .empty → t'.slot j ≠ .empty) {x : Int} {j : Nat} (hr : Reach t x j) : Reach t' x j := by
  obtain ⟨n, h1, h2⟩ := hr
  exact ⟨n, by rw [hm]; exact h1, fun m hm' => by rw [hm]; exact h _ (h2 m hm')⟩

theorem sok_alike {α : Type} {t t' : SetTable} {es : List (Int × α)} (h : SOk t es) (hm : t'.mask = t.mask) (h1 : t'.place = t.place) (h2 : t'.dummies = t.dummies) : SOk t' es := by
  obtain ⟨⟨a1, a2, a3, a4, a5, a6, a7⟩, b, c, d⟩ := h
  refine ⟨⟨by rw [h1]; exact a1, by rw [h2]; exact a2, by rw [h1, hm]; exact a3, by rw [h2, hm]; exact a4, by rw [h1, h2]; exact a5, by rw [hm]; exact a6, by rw [hm]; exact a7⟩, ?_, by rw [h1]; exact c, ?_⟩
  · unfold fill at *; rw [h1, h2, hm]; exact b
  · rw [h1]; intro x hx
    exact reach_mono hm (fun j hj => by rw [slot_alike t t' h1 h2]; exact hj) (d x hx)

theorem sok_fresh {α : Type} (finger moves : Nat) (led : Bool) : SOk (α := α) (fresh finger moves led) [] := by
  refine ⟨⟨by simp [SetTable.fresh], by simp [SetTable.fresh], by simp [SetTable.fresh], by simp [SetTable.fresh], by simp [SetTable.fresh], ⟨0, by simp [SetTable.fresh]⟩, by simp [SetTable.fresh]⟩, by simp [SetTable.fresh, SetTable.fill], by simp [SetTable.fresh], ?_⟩
  intro c hc; simp at hc

/-! ### by its size -/

theorem sizeAbove_go (n : Nat) : ∀ (fuel size : Nat), (∃ k, size = 2 ^ (k + 3)) → n < size * 2 ^ fuel →
    (∃ k, sizeAbove.go n fuel size = 2 ^ (k + 3)) ∧ n < sizeAbove.go n fuel size ∧ (sizeAbove.go n fuel size ≤ size ∨ sizeAbove.go n fuel size ≤ 2 * n) := by
  intro fuel
  induction fuel with
  | zero => intro size hk hn; unfold sizeAbove.go; exact ⟨hk, by simpa using hn, .inl (Nat.le_refl _)⟩
  | succ fuel ih =>
    intro size hk hn
    unfold sizeAbove.go
    by_cases hc : size ≤ n
    · rw [if_pos hc]
      obtain ⟨k, hk⟩ := hk
      obtain ⟨h1, h2, h3⟩ := ih (size * 2) ⟨k + 1, by rw [hk, Nat.pow_succ, Nat.pow_succ, Nat.pow_succ, Nat.pow_succ, Nat.pow_succ, Nat.pow_succ, Nat.pow_succ]⟩ (by
        rw [Nat.pow_succ] at hn; rw [Nat.mul_assoc, Nat.mul_comm 2]; exact hn)
      refine ⟨h1, h2, .inr ?_⟩
      rcases h3 with h3 | h3 <;> omega
    · rw [if_neg hc]
      exact ⟨hk, by omega, .inl (Nat.le_refl _)⟩

theorem sizeAbove_ok (n : Nat) (hn : n ≤ 4095) : (∃ k, sizeAbove n - 1 + 1 = 2 ^ (k + 3)) ∧ n ≤ sizeAbove n - 1 ∧ 7 ≤ sizeAbove n - 1 ∧ sizeAbove n - 1 ≤ 8191 ∧ sizeAbove n ≤ 8192 := by
  obtain ⟨⟨k, h1⟩, h2, h3⟩ := sizeAbove_go n 64 8 ⟨0, by decide⟩ (Nat.lt_of_le_of_lt hn (by decide))
  have h1' : sizeAbove n = 2 ^ (k + 3) := h1
  have h2' : n < sizeAbove n := h2
  have h3' : sizeAbove n ≤ 8 ∨ sizeAbove n ≤ 2 * n := h3
  have hk : 8 ≤ 2 ^ (k + 3) := by rw [Nat.pow_add]; have := Nat.two_pow_pos k; omega
  refine ⟨⟨k, by omega⟩, by omega, by omega, by omega, by omega⟩

theorem relaid_ok {α : Type} (t : SetTable) (es : Array (Int × α)) (wanted : Nat) (h1 : 2 * es.size ≤ wanted) (h2 : wanted ≤ 4095) :
    ∃ t' order, t.relaid (es.map (·.1)) wanted = some (t', order) ∧ t'.dummies = #[] ∧ t'.mask = sizeAbove wanted - 1 ∧ t'.led = t.led ∧ t'.plain = t.plain ∧
      order.toList.Perm (List.range es.size) ∧ (order.filterMap (es[·]?)).toList.Perm es.toList ∧ (order.filterMap (es[·]?)).size = es.size ∧ SOk t' (order.filterMap (es[·]?)).toList := by
  obtain ⟨⟨k, hk⟩, a, b, c, _⟩ := sizeAbove_ok wanted h2
  obtain ⟨t', order, e1, e2, e3, e4, e5, e6, e7, e8, e9, e10, e11⟩ := laid_ok (sizeAbove wanted - 1) k hk c t.finger (t.movedTo (sizeAbove wanted - 1)) t.led t.plain es (by omega)
  exact ⟨t', order, e1, e3, e2, e4, e5, e8, e9, e10, e11⟩

/-! ### filled -/

theorem take_zip' {α β : Type} : ∀ (p : Nat) (l : List α) (m : List β), (l.zip m).take p = (l.take p).zip (m.take p) := by
  intro p
  induction p with
  | zero => intro l m; simp
  | succ p ih => intro l m; cases l with
    | nil => simp
    | cons a l => cases m with
      | nil => simp
      | cons b m => simp [ih]
theorem drop_zip' {α β : Type} : ∀ (p : Nat) (l : List α) (m : List β), (l.zip m).drop p = (l.drop p).zip (m.drop p) := by
  intro p
  induction p with
  | zero => intro l m; simp
  | succ p ih => intro l m; cases l with
    | nil => simp
    | cons a l => cases m with
      | nil => simp
      | cons b m => simp [ih]

theorem zip_insert {α β : Type} (p : Nat) (a : α) (b : β) : ∀ (l : List α) (m : List β), l.length = m.length →
    (l.take p ++ a :: l.drop p).zip (m.take p ++ b :: m.drop p) = (l.zip m).take p ++ (a, b) :: (l.zip m).drop p := by
  intro l m h
  rw [List.zip_append (by simp [h]), List.zip_cons_cons, ← take_zip', ← drop_zip']

theorem take_drop_perm {α : Type} (p : Nat) (a : α) (l : List α) : (l.take p ++ a :: l.drop p).Perm (a :: l) := by
  have h : (l.take p ++ a :: l.drop p).Perm (a :: (l.take p ++ l.drop p)) := List.perm_middle
  rw [List.take_append_drop] at h; exact h

theorem mem_erase_at (xs : Array Nat) (i : Nat) (j : Nat) (hp : xs.toList.Pairwise (· < ·)) (h : xs[i]? = some j) (x : Nat) : x ∈ (eraseAt xs i).toList ↔ x ∈ xs.toList ∧ x ≠ j := by
  rw [eraseAt_list]
  rw [← Array.getElem?_toList] at h
  obtain ⟨hi, hx⟩ := List.getElem?_eq_some_iff.mp h
  have hsp : xs.toList = xs.toList.take i ++ j :: xs.toList.drop (i + 1) := by
    rw [← hx, List.getElem_cons_drop, List.take_append_drop]
  have hp' := hp
  rw [hsp, List.pairwise_append, List.pairwise_cons] at hp'
  obtain ⟨p1, ⟨p2, p3⟩, p4⟩ := hp'
  rw [List.mem_append]
  constructor
  · rintro (h1 | h1)
    · have := p4 x h1 j (.head _); exact ⟨List.mem_of_mem_take h1, by omega⟩
    · have := p2 x h1; exact ⟨List.mem_of_mem_drop h1, by omega⟩
  · rintro ⟨h1, h2⟩
    rw [hsp, List.mem_append] at h1
    rcases h1 with h1 | h1
    · exact .inl h1
    · rcases List.mem_cons.mp h1 with e | e
      · exact absurd e h2
      · exact .inr e

theorem put_ok {α : Type} (t : SetTable) (es : Array (Int × α)) (h : Int) (x : α) (s : Nat) (ok : SOk t es.toList) (hs : t.slot s = .empty ∨ t.slot s = .dummy) (hm : s ≤ t.mask) (hr : Reach t h s) :
    TOk (t.put s).1 ∧ (t.put s).1.mask = t.mask ∧ (t.put s).1.place.size = (insertAt es (t.put s).2 (h, x)).size ∧
    (∀ c ∈ (t.put s).1.place.toList.zip (insertAt es (t.put s).2 (h, x)).toList, Reach (t.put s).1 c.2.1 c.1) ∧
    (t.put s).1.fill ≤ t.fill + 1 ∧ (t.slot s = .dummy → (t.put s).1.fill = t.fill) ∧ (insertAt es (t.put s).2 (h, x)).toList.Perm ((h, x) :: es.toList) ∧
    (t.put s).1.led = t.led ∧ (t.put s).1.plain = t.plain := by
  obtain ⟨⟨a1, a2, a3, a4, a5, a6, a7⟩, b, c, d⟩ := ok
  have tok : TOk t := ⟨a1, a2, a3, a4, a5, a6, a7⟩
  have hnp : s ∉ t.place.toList := by
    rcases hs with hs | hs
    · exact ((slot_empty tok s).mp hs).1
    · exact a5 s ((slot_dummy tok s).mp hs)
  have hb := (below_spec t.place s a1).1
  have hbe : below t.place s ≤ es.size := by have : t.place.size = es.size := by simpa using c
                                             omega
  have hd' : ∀ y, y ∈ (if has t.dummies s = true then eraseAt t.dummies (below t.dummies s) else t.dummies).toList ↔ y ∈ t.dummies.toList ∧ y ≠ s := by
    intro y
    by_cases hh : has t.dummies s = true
    · rw [if_pos hh]
      exact mem_erase_at t.dummies _ s a2 ((below_mem _ _ a2).mpr ((has_iff _ _ a2).mp hh)) y
    · rw [if_neg hh]
      exact ⟨fun hy => ⟨hy, fun e => hh ((has_iff _ _ a2).mpr (e ▸ hy))⟩, fun hy => hy.1⟩
  have hpl : (t.put s).1.place.toList = t.place.toList.take (below t.place s) ++ s :: t.place.toList.drop (below t.place s) := insertAt_list _ _ _ hb
  have hmp : ∀ y, y ∈ (t.put s).1.place.toList ↔ y = s ∨ y ∈ t.place.toList := by
    intro y; rw [hpl, (take_drop_perm _ _ _).mem_iff, List.mem_cons]
  have hmd : ∀ y, y ∈ (t.put s).1.dummies.toList ↔ y ∈ t.dummies.toList ∧ y ≠ s := hd'
  have htok : TOk (t.put s).1 := by
    refine ⟨insertAt_below _ _ a1 hnp, ?_, ?_, ?_, ?_, a6, a7⟩
    · show (if has t.dummies s = true then eraseAt t.dummies (below t.dummies s) else t.dummies).toList.Pairwise (· < ·)
      split
      · rw [eraseAt_list]
        refine List.Pairwise.sublist ?_ a2
        have : (t.dummies.toList.take (below t.dummies s) ++ t.dummies.toList.drop (below t.dummies s + 1)).Sublist (t.dummies.toList.take (below t.dummies s) ++ t.dummies.toList.drop (below t.dummies s)) :=
          List.Sublist.append (List.Sublist.refl _) (by rw [← List.drop_drop]; exact List.drop_sublist _ _)
        rw [List.take_append_drop] at this; exact this
      · exact a2
    · intro j hj; rcases (hmp j).mp hj with e | e
      · rw [e]; exact hm
      · exact a3 j e
    · intro j hj; exact a4 j ((hmd j).mp hj).1
    · intro j hj hc
      rcases (hmp j).mp hc with e | e
      · exact ((hmd j).mp hj).2 e
      · exact a5 j ((hmd j).mp hj).1 e
  have hmono : ∀ j, t.slot j ≠ .empty → (t.put s).1.slot j ≠ .empty := by
    intro j hj hc
    obtain ⟨c1, c2⟩ := (slot_empty htok j).mp hc
    refine hj ((slot_empty tok j).mpr ⟨fun e => c1 ((hmp j).mpr (.inr e)), fun e => ?_⟩)
    by_cases he : j = s
    · exact c1 ((hmp j).mpr (.inl he))
    · exact c2 ((hmd j).mpr ⟨e, he⟩)
  refine ⟨htok, rfl, ?_, ?_, ?_, ?_, ?_, rfl, rfl⟩
  · show (insertAt t.place (below t.place s) s).size = (insertAt es (below t.place s) (h, x)).size
    rw [← Array.length_toList, ← Array.length_toList, insertAt_list _ _ _ hb, insertAt_list _ _ _ hbe, (take_drop_perm _ _ _).length_eq, (take_drop_perm _ _ _).length_eq]
    simpa using c
  · intro e he
    rw [hpl] at he
    have he' : e ∈ (t.place.toList.take (below t.place s) ++ s :: t.place.toList.drop (below t.place s)).zip (insertAt es (below t.place s) (h, x)).toList := he
    rw [insertAt_list _ _ _ hbe, zip_insert _ _ _ _ _ (by simpa using c), (take_drop_perm _ _ _).mem_iff, List.mem_cons] at he'
    rcases he' with e1 | e1
    · rw [e1]; exact reach_mono (t := t) (t' := (t.put s).1) rfl hmono hr
    · exact reach_mono (t := t) (t' := (t.put s).1) rfl hmono (d e e1)
  · show (insertAt t.place (below t.place s) s).size + (if has t.dummies s = true then eraseAt t.dummies (below t.dummies s) else t.dummies).size ≤ t.fill + 1
    have h1 : (insertAt t.place (below t.place s) s).size = t.place.size + 1 := by
      rw [← Array.length_toList, insertAt_list _ _ _ hb, (take_drop_perm _ _ _).length_eq]; simp
    have h2 : (if has t.dummies s = true then eraseAt t.dummies (below t.dummies s) else t.dummies).size ≤ t.dummies.size := by
      split
      · rw [← Array.length_toList, eraseAt_list]; simp; omega
      · exact Nat.le_refl _
    unfold fill; omega
  · intro hdm
    show (insertAt t.place (below t.place s) s).size + (if has t.dummies s = true then eraseAt t.dummies (below t.dummies s) else t.dummies).size = t.fill
    have h1 : (insertAt t.place (below t.place s) s).size = t.place.size + 1 := by
      rw [← Array.length_toList, insertAt_list _ _ _ hb, (take_drop_perm _ _ _).length_eq]; simp
    have hin := (slot_dummy tok s).mp hdm
    rw [if_pos ((has_iff _ _ a2).mpr hin)]
    have hlt := (Array.getElem?_eq_some_iff.mp ((below_mem _ _ a2).mpr hin)).1
    have h2 : (eraseAt t.dummies (below t.dummies s)).size + 1 = t.dummies.size := by
      rw [← Array.length_toList, eraseAt_list]; simp; omega
    unfold fill; omega
  · show (insertAt es (below t.place s) (h, x)).toList.Perm ((h, x) :: es.toList)
    rw [insertAt_list _ _ _ hbe]; exact take_drop_perm _ _ _

end L2T

set_option Elab.async false
set_option linter.all false
set_option maxRecDepth 100000
set_option maxHeartbeats 4000000
/-! MY OWN: sets in the heap, by their keys: texts, whole numbers, tuples of these -/
namespace L2
open PySem PySem.Spec PyProof.Rows L2T

/-- a key of a set: flat, or a tuple of flat ones -/
inductive SK where
  | one (k : Key)
  | many (ks : List Key)
  deriving DecidableEq
def SK.flat : SK → Bool
  | .one _ => true
  | .many _ => false
section
variable (prog : Program) (w : World)
def SK.is (h : Heap) : SK → Value → Prop
  | .one k, v => (mixKind prog w).is k v = true
  | .many ks, v => ∃ a, v = .ref a ∧ IsTupleKey (mixKind prog w) h ks a
def SK.hash : SK → Int
  | .one k => (mixKind prog w).hash k
  | .many ks => tupleKeyHash (mixKind prog w) ks
/-- entries by their keys -/
inductive Es (h : Heap) : List SK → List (Int × Value) → Prop
  | nil : Es h [] []
  | cons {k : SK} {e : Int × Value} {ks : List SK} {es : List (Int × Value)} : e.1 = k.hash prog w → k.is prog w h e.2 → Es h ks es → Es h (k :: ks) (e :: es)
/-- tuples stay -/
def KeepT (h h' : Heap) : Prop := ∀ b o, o.cls = .type "tuple" → h.get? b = some o → h'.get? b = some o
def led0 : Bool := !w.params.followText "set-order"
/-- what a set's object holds -/
structure SetO (h : Heap) (o : Obj) (ks : List SK) (es : Array (Int × Value)) (ep : Nat) (t : SetTable) : Prop where
  ex : o.ExactSet
  data : o.data = .set es ep t
  tab : SOk t es.toList
  ent : Es prog w h ks es.toList
  nod : ks.Nodup
  small : ks.length ≤ 1000
  led : t.led = led0 w
  kind : ∃ f, ∀ k ∈ ks, k.flat = f
def SetE (h : Heap) (a : Addr) (ks : List SK) (es : Array (Int × Value)) : Prop := ∃ o ep t, h.get? a = some o ∧ SetO prog w h o ks es ep t
end
section
variable {prog : Program} {w : World} {h h' : Heap}
theorem SK.is_mono {k : SK} {v : Value} (K : KeepT h h') (x : k.is prog w h v) : k.is prog w h' v := by
  cases k with
  | one k => exact x
  | many ks =>
    obtain ⟨a, rfl, o, its, n, e, c, d, i⟩ := x
    exact ⟨a, rfl, o, its, n, K a o c e, c, d, i⟩
theorem Es.mono {ks : List SK} {es : List (Int × Value)} (K : KeepT h h') (x : Es prog w h ks es) : Es prog w h' ks es := by
  induction x with
  | nil => exact .nil
  | cons a b _ ih => exact .cons a (SK.is_mono K b) ih
theorem Es.length {ks : List SK} {es : List (Int × Value)} (x : Es prog w h ks es) : ks.length = es.length := by
  induction x with
  | nil => rfl
  | cons a b _ ih => simp [ih]
theorem Es.get {ks : List SK} {es : List (Int × Value)} (x : Es prog w h ks es) : ∀ (i : Nat) (e : Int × Value), es[i]? = some e → ∃ k, ks[i]? = some k ∧ e.1 = k.hash prog w ∧ k.is prog w h e.2 := by
  induction x with
  | nil => intro i e he; simp at he
  | cons a b _ ih =>
    intro i e he
    cases i with
    | zero => simp at he; subst he; exact ⟨_, rfl, a, b⟩
    | succ i => exact ih i e he
theorem Es.perm {ks : List SK} {es es' : List (Int × Value)} (x : Es prog w h ks es) (p : es'.Perm es) : ∃ ks', ks'.Perm ks ∧ Es prog w h ks' es' := by
  have p' := p.symm
  clear p
  induction p' generalizing ks with
  | nil => exact ⟨ks, .refl _, x⟩
  | cons e _ ih =>
    cases x with
    | cons a b y =>
      obtain ⟨k2, q, z⟩ := ih y
      exact ⟨_ :: k2, q.cons _, .cons a b z⟩
  | swap e f l =>
    cases x with
    | cons a b y => cases y with
      | cons c d z => exact ⟨_ :: _ :: _, List.Perm.swap _ _ _, .cons c d (.cons a b z)⟩
  | trans _ _ ih1 ih2 =>
    obtain ⟨k1, q1, z1⟩ := ih1 x
    obtain ⟨k2, q2, z2⟩ := ih2 z1
    exact ⟨k2, q2.trans q1, z2⟩
theorem SetO.fits {o : Obj} {ks : List SK} {es : Array (Int × Value)} {ep : Nat} {t : SetTable} (S : SetO prog w h o ks es ep t) : t.fits es.size = true := by
  have h1 := S.tab.size
  have h2 := S.tab.room
  simp only [SetTable.fits, Bool.and_eq_true, beq_iff_eq, decide_eq_true_eq]
  exact ⟨by simpa using h1, by omega⟩
theorem SetO.mono {o : Obj} {ks : List SK} {es : Array (Int × Value)} {ep : Nat} {t : SetTable} (K : KeepT h h') (S : SetO prog w h o ks es ep t) : SetO prog w h' o ks es ep t :=
  ⟨S.ex, S.data, S.tab, S.ent.mono K, S.nod, S.small, S.led, S.kind⟩
theorem SetO.same {o o' : Obj} {ks : List SK} {es es' : Array (Int × Value)} {ep ep' : Nat} {t t' : SetTable} (S : SetO prog w h o ks es ep t) (S' : SetO prog w h o' ks es' ep' t') : es.size = es'.size := by
  have a := S.ent.length
  have b := S'.ent.length
  simp at a b; omega
theorem keepT_sameBut {a : Addr} {o : Obj} {es : Array (Int × Value)} {ep : Nat} {t : SetTable} (ho : h.get? a = some o) (hd : o.ExactSet) (hs : Heap.SameBut a h h') : KeepT h h' := by
  intro b u c e
  have hne : b ≠ a := by
    rintro rfl
    rw [ho] at e; cases e
    rw [hd.1] at c; exact absurd c (by decide)
  exact (hs.2 b hne).trans e
end
end L2

set_option Elab.async false
set_option linter.all false
set_option maxRecDepth 100000
set_option maxHeartbeats 4000000
/-! MY OWN: a set searched -/
namespace L2
open PySem PySem.Spec PyProof.Rows L2T
section
variable {prog : Program} {w : World} {A : Around} {E : Value → Shared → Prop} {s : Shared}
theorem state_w {M : Model} {a : Addr} {o : Obj} {ks : List SK} {es : Array (Int × Value)} {ep : Nat} {t : SetTable} {Q : Array (Int × Value) × Nat × SetTable → Shared → Prop}
    (ho : s.heap.get? a = some o) (S : SetO prog w s.heap o ks es ep t) (q : Q (es, ep, t) s) : wpAny (model prog w) A (setState a) Q E s :=
  wpAny_setState_of ho S.data S.fits q
theorem quietT {ks : List Key} {v : Value} {a : Addr} {Q : Bool → Shared → Prop} (hk : IsTupleKey (mixKind prog w) s.heap ks a) (h : Q false s) : wpAny (model prog w) A (ofAClassStatement 8 (.ref a)) Q E s := by
  have hT := hk.typeIs
  obtain ⟨o, its, n, ho, _, hd, hi⟩ := hk
  unfold ofAClassStatement
  refine wpAny_bind (wpAny_typeOf hT ?_)
  show wpAny _ _ ((if ("tuple" == "tuple") = true then pure true else isSubtype (.type "tuple") (.type "tuple")) >>= _) Q E s
  refine wpAny_bind (wpAny_pure ?_)
  show wpAny _ _ (seqItems? (.ref a) >>= _) Q E s
  refine wpAny_bind (wpAny_seqItems ho hd ?_)
  show wpAny _ _ (forIn its _ _ >>= _) Q E s
  refine wpAny_bind ?_
  rw [← Array.forIn_toList]
  refine wpAny_forIn_list _ (fun rest r s' => r.1 = none ∧ s' = s ∧ ∀ v ∈ rest, carriedByValue v = true) _ ?_ ?_ _ _ ⟨rfl, rfl, hi.byValue⟩
  · rintro v rest r s' ⟨hr, rfl, hall⟩
    have hv := hall v List.mem_cons_self
    have e : ofAClassStatement 7 v = pure false := by
      cases v <;> first | rfl | (simp [carriedByValue] at hv)
    show wpAny _ _ (ofAClassStatement 7 v >>= _) _ _ _
    rw [e]
    refine wpAny_bind (wpAny_pure ?_)
    simp only [Bool.false_eq_true, if_false]
    exact wpAny_pure ⟨rfl, rfl, fun u hu' => hall u (List.mem_cons_of_mem _ hu')⟩
  · rintro ⟨r1, r2⟩ s' ⟨hr, rfl, _⟩
    simp only at hr
    subst hr
    exact wpAny_pure h
theorem unseen_w {kk : List Key} {a : Addr} {Q : Bool → Shared → Prop} (hk : IsTupleKey (mixKind prog w) s.heap kk a) (h : Q false s) :
    ∀ ys : List Value, (∀ y ∈ ys, ∃ b ks, y = .ref b ∧ IsTupleKey (mixKind prog w) s.heap ks b) → wpAny (model prog w) A (searchCouldBeSeen (.ref a) ys) Q E s := by
  intro ys hys
  unfold searchCouldBeSeen
  refine wpAny_bind ?_
  refine wpAny_forIn_list _ (fun rest r s' => r.1 = none ∧ s' = s ∧ ∀ y ∈ rest, ∃ b ks, y = .ref b ∧ IsTupleKey (mixKind prog w) s.heap ks b) _ ?_ ?_ _ _ ⟨rfl, rfl, hys⟩
  · rintro y rest r s' ⟨hr, rfl, hall⟩
    obtain ⟨b, ks, rfl, hb⟩ := hall y List.mem_cons_self
    have hrest : ∀ y ∈ rest, ∃ b ks, y = .ref b ∧ IsTupleKey (mixKind prog w) s'.heap ks b := fun y hy => hall y (List.mem_cons_of_mem _ hy)
    dsimp only
    by_cases hab : (a == b) = true
    · rw [if_pos (by rw [hab]; rfl)]
      exact wpAny_pure ⟨rfl, rfl, hrest⟩
    · rw [if_neg (by rw [Bool.not_eq_true] at hab; rw [hab]; simp [carriedByValue])]
      refine wpAny_bind (wpAny_eqIsQuiet_tuple hk ?_)
      simp only [Bool.not_true, Bool.false_eq_true, if_false]
      refine wpAny_bind (wpAny_eqIsQuiet_tuple hb ?_)
      simp only [Bool.not_true, Bool.false_eq_true, if_false]
      refine wpAny_bind (quietT (v := .none) hk ?_)
      simp only [Bool.false_eq_true, if_false]
      refine wpAny_bind (quietT (v := .none) hb ?_)
      simp only [Bool.false_eq_true, if_false]
      exact wpAny_pure ⟨rfl, rfl, hrest⟩
  · rintro ⟨r1, r2⟩ s' ⟨hr, rfl, _⟩
    simp only at hr
    subst hr
    exact wpAny_pure h

theorem search_w {a : Addr} {o : Obj} {ks : List SK} {es : Array (Int × Value)} {ep : Nat} {t : SetTable} {x : Value} {kk : List Key} {adding : Bool} {Q : SetFound → Shared → Prop} (hu : A.units < cLine)
    (ho : s.heap.get? a = some o) (S : SetO prog w s.heap o ks es ep t) (hk : ∀ k ∈ ks, k.flat = false) (hx : (SK.many kk).is prog w s.heap x)
    (found : ∀ i, ks[i]? = some (.many kk) → Q (.there (if adding then none else some i)) s)
    (free : SK.many kk ∉ ks → ∀ sl wd, sl ≤ t.mask → Reach t (SK.hash prog w (.many kk)) sl → (wd = true → t.slot sl = .dummy) → (wd = false → t.slot sl = .empty) → Q (.free sl wd) s) :
    ∀ (fuel n : Nat) (stand : Option SetTable.Probe), (stand = none → n = 0) →
      (∀ p, stand = some p → SameP p (prM t.mask (SK.hash prog w (.many kk)) n) ∧ (p.dummy = none ∨ ∃ q, q < n ∧ p.dummy = some (posM t.mask (SK.hash prog w (.many kk)) q) ∧ t.slot (posM t.mask (SK.hash prog w (.many kk)) q) = .dummy)) →
      (∀ q, q < n → t.slot (posM t.mask (SK.hash prog w (.many kk)) q) ≠ .empty ∧ ∀ i, t.slot (posM t.mask (SK.hash prog w (.many kk)) q) = .live i → ks[i]? ≠ some (.many kk)) →
      (∃ N, n ≤ N ∧ N < n + fuel ∧ N < 10 * SetTable.turns t.mask ∧ t.slot (posM t.mask (SK.hash prog w (.many kk)) N) = .empty) →
      wpAny (model prog w) A (setSearchFrom a x (SK.hash prog w (.many kk)) adding fuel stand) Q E s := by
  generalize hH : SK.hash prog w (.many kk) = hh at *
  have tok := S.tab.ok
  obtain ⟨kp, hpow⟩ := tok.pow
  obtain ⟨ax, rfl, hax⟩ := hx
  have hgw : t.gaveWay = false := by
    unfold SetTable.gaveWay
    rw [Nat.pow_succ] at hpow
    rw [beq_eq_false_iff_ne]; omega
  have hent : ∀ (i : Nat) (h : Int) (y : Value), es[i]? = some (h, y) → ∃ (b : Addr) (k2 : List Key), y = Value.ref b ∧ IsTupleKey (mixKind prog w) s.heap k2 b ∧ ks[i]? = some (SK.many k2) ∧ h = SK.hash prog w (SK.many k2) := by
    intro i h y he
    obtain ⟨k, h1, h2, h3⟩ := S.ent.get i (h, y) (by rw [Array.getElem?_toList]; exact he)
    have hf := hk k (List.mem_of_getElem? h1)
    cases k with
    | one k => simp [SK.flat] at hf
    | many k2 => obtain ⟨b, rfl, hb⟩ := h3; exact ⟨b, k2, rfl, hb, h1, h2⟩
  intro fuel
  induction fuel with
  | zero => rintro n stand _ _ _ ⟨N, h1, h2, _⟩; omega
  | succ fuel ih =>
    rintro n stand hst hsp hq ⟨N, n1, n2, n3, n4⟩
    unfold setSearchFrom
    refine wpAny_bind (state_w (M := model prog w) ho S ?_)
    dsimp only
    rw [hgw]
    simp only [Bool.false_eq_true, if_false]
    have hstart : SameP (stand.getD (t.probeStart hh)) (prM t.mask hh n) ∧ ((stand.getD (t.probeStart hh)).dummy = none ∨ ∃ q, q < n ∧ (stand.getD (t.probeStart hh)).dummy = some (posM t.mask hh q) ∧ t.slot (posM t.mask hh q) = .dummy) := by
      cases stand with
      | none => rw [hst rfl]; exact ⟨⟨rfl, rfl, rfl, rfl⟩, .inl rfl⟩
      | some p => exact hsp p rfl
    obtain ⟨m, m1, m2, d, hd, hr⟩ := probe_go t (fun i => (es[i]?.map (·.1)).getD 0) hh (10 * SetTable.turns t.mask) _ n hstart.1 ⟨N, n1, by omega, n4⟩
    have hd' : d = none ∨ ∃ q, q < m ∧ d = some (posM t.mask hh q) ∧ t.slot (posM t.mask hh q) = .dummy := by
      rcases hd with hd | ⟨q, q1, q2, q3, q4⟩
      · rcases hstart.2 with e | ⟨q, q1, q2, q3⟩
        · exact .inl (hd.trans e)
        · exact .inr ⟨q, by omega, hd.trans q2, q3⟩
      · exact .inr ⟨q, q2, q3, q4⟩
    have hne : ∀ q, q < m → t.slot (posM t.mask hh q) ≠ .empty := fun q hqm => by
      rcases Nat.lt_or_ge q n with hl | hl
      · exact (hq q hl).1
      · exact (m2 q hl hqm).1
    rcases hr with ⟨hemp, hr⟩ | ⟨i, nx, hlive, hhash, hr, hsn, hdn⟩
    · -- an empty slot: it is not there
      have habs : SK.many kk ∉ ks := by
        intro hin
        obtain ⟨i, hi⟩ := List.mem_iff_getElem?.mp hin
        have hil : i < ks.length := (List.getElem?_eq_some_iff.mp hi).1
        have hie : i < es.size := by have := S.ent.length; simp at this; omega
        have hip : i < t.place.size := by have := S.tab.size; simp at this; omega
        have hpl : t.place[i]? = some t.place[i] := Array.getElem?_eq_getElem hip
        have hes : es[i]? = some es[i] := Array.getElem?_eq_getElem hie
        obtain ⟨b, k2, hy, hb, hki, hhi⟩ := hent i es[i].1 es[i].2 hes
        have hkk : k2 = kk := by rw [hi] at hki; cases hki; rfl
        subst hkk
        have hreach := S.tab.reach (t.place[i], es[i]) (by
          rw [List.mem_iff_getElem?]
          refine ⟨i, ?_⟩
          rw [List.getElem?_zip_eq_some]
          exact ⟨by rw [Array.getElem?_toList]; exact hpl, by rw [Array.getElem?_toList]; exact hes⟩)
        obtain ⟨n', e1, e2⟩ := hreach
        dsimp only at e1 e2
        rw [hhi, hH] at e1 e2
        have hl : t.slot (posM t.mask hh n') = .live i := by rw [e1]; exact (slot_live tok _ i).mpr hpl
        rcases Nat.lt_trichotomy n' m with c | c | c
        · rcases Nat.lt_or_ge n' n with c2 | c2
          · exact (hq n' c2).2 i hl hi
          · refine (m2 n' c2 c).2 i hl ?_
            rw [hes]; show es[i].1 = hh; rw [hhi, hH]
        · subst c; rw [hl] at hemp; cases hemp
        · exact e2 m c hemp
      generalize hX : t.probe _ hh _ = pX
      have hX2 := hX.symm.trans hr
      subst hX2
      rcases hd' with rfl | ⟨q, q1, rfl, q2⟩
      · exact wpAny_pure (free habs _ false (pos_le _ _ hpow hh m) ⟨m, rfl, hne⟩ (fun e => by cases e) (fun _ => hemp))
      · dsimp only
        rw [q2]
        have : (adding && (SetTable.Slot.dummy != SetTable.Slot.dummy)) = false := by cases adding <;> decide
        rw [this]
        simp only [Bool.false_eq_true, if_false]
        exact wpAny_pure (free habs _ true (pos_le _ _ hpow hh q) ⟨q, rfl, fun m' hm' => hne m' (by omega)⟩ (fun _ => q2) (fun e => by cases e))
    · have hpl := (slot_live tok _ i).mp hlive
      have hip : i < t.place.size := (Array.getElem?_eq_some_iff.mp hpl).1
      have hie : i < es.size := by have := S.tab.size; simp at this; omega
      have hes : es[i]? = some es[i] := Array.getElem?_eq_getElem hie
      obtain ⟨b, k2, hy, hb, hki, hhi⟩ := hent i es[i].1 es[i].2 hes
      generalize hX : t.probe _ hh _ = pX
      have hX2 := hX.symm.trans hr
      subst hX2
      dsimp only
      have hall : ∀ y ∈ (es.filter (·.1 == hh)).toList.map (·.2), ∃ (b : Addr) (k3 : List Key), y = Value.ref b ∧ IsTupleKey (mixKind prog w) s.heap k3 b := by
        intro y hy
        obtain ⟨e, he, rfl⟩ := List.mem_map.mp hy
        have he' := (Array.mem_filter.mp (Array.mem_toList_iff.mp he)).1
        obtain ⟨j, hj⟩ := List.mem_iff_getElem?.mp (Array.mem_toList_iff.mpr he')
        rw [Array.getElem?_toList] at hj
        obtain ⟨b, k3, hy, hb, _⟩ := hent j e.1 e.2 hj
        exact ⟨b, k3, hy, hb⟩
      by_cases hl : t.led = true
      case' pos => simp only [hl, Bool.not_true, Bool.false_eq_true, if_false]
      case' neg =>
        rw [Bool.not_eq_true] at hl
        simp only [hl, Bool.not_false, if_true]
        refine wpAny_bind (unseen_w hax ?_ _ hall)
        simp only [Bool.false_eq_true, if_false]
      all_goals
          rw [hes]
          dsimp only
          rw [hy]
          refine wpAny_bind (wpAny_holding (wpAny_eqBool_tuple hu hb hax ?_))
          refine wpAny_bind (state_w (M := model prog w) ho S ?_)
          dsimp only
          by_cases hkk : k2 = kk
          · subst hkk
            have hQ := found i hki
            rw [decide_eq_true rfl]
            cases adding with
            | true => exact wpAny_pure hQ
            | false =>
              have hsm : t.sameMemory t.moves t.mask = some true := by unfold SetTable.sameMemory; simp
              simp only [Bool.false_and, Bool.false_eq_true, if_false, hsm, if_true, hlive, hes, hy]
              have hself : isSame (.ref b) (.ref b) = pure true := by simp [isSame]
              rw [hself]
              exact wpAny_bind (wpAny_pure (wpAny_bind (wpAny_pure (wpAny_pure hQ))))
          · rw [decide_eq_false hkk]
            have hsm : t.sameMemory t.moves t.mask = some true := by unfold SetTable.sameMemory; simp
            simp only [Bool.and_false, Bool.false_eq_true, if_false, hsm, if_true, hlive, hes, hy]
            have hself : isSame (.ref b) (.ref b) = pure true := by simp [isSame]
            rw [hself]
            refine wpAny_bind (wpAny_pure (wpAny_bind (wpAny_pure ?_)))
            have hmN : m < N := by
              refine Nat.lt_of_not_le fun c => ?_
              rcases Nat.eq_or_lt_of_le c with e | e
              · rw [← e, n4] at hlive; cases hlive
              · exact hne N e n4
            refine ih (m + 1) (some nx) (fun e => by cases e) (fun p hp => ?_) (fun q hqm => ?_) ⟨N, by omega, by omega, n3, n4⟩
            · cases hp
              refine ⟨hsn, ?_⟩
              rw [hdn]
              rcases hd' with e | ⟨q, q1, q2, q3⟩
              · exact .inl e
              · exact .inr ⟨q, by omega, q2, q3⟩
            · rcases Nat.lt_or_ge q m with c | c
              · refine ⟨hne q c, fun j hj hkj => ?_⟩
                rcases Nat.lt_or_ge q n with c2 | c2
                · exact (hq q c2).2 j hj hkj
                · have hpj := (slot_live tok _ j).mp hj
                  have hjp : j < t.place.size := (Array.getElem?_eq_some_iff.mp hpj).1
                  have hje : j < es.size := by have := S.tab.size; simp at this; omega
                  have hej : es[j]? = some es[j] := Array.getElem?_eq_getElem hje
                  obtain ⟨_, k3, _, _, hkj', hhj⟩ := hent j es[j].1 es[j].2 hej
                  rw [hkj] at hkj'; cases hkj'
                  refine (m2 q c2 c).2 j hj ?_
                  rw [hej]; show es[j].1 = hh; rw [hhj, hH]
              · have : q = m := by omega
                subst this
                refine ⟨by rw [hlive]; exact fun e => (by cases e), fun j hj hkj => ?_⟩
                rw [hlive] at hj; cases hj
                rw [hki] at hkj; cases hkj; exact hkk rfl
end
end L2

set_option Elab.async false
set_option linter.all false
set_option maxRecDepth 100000
set_option maxHeartbeats 4000000
/-! MY OWN: a key found in a set, a key put into a set -/
namespace L2
open PySem PySem.Spec PyProof.Rows L2T
section
variable {prog : Program} {w : World} {h : Heap}
theorem put_get {a : Addr} {o : Obj} {es : Array (Int × Value)} {ep : Nat} {t : SetTable} (ho : h.get? a = some o) (hd : o.data = .set es ep t) (e1 : Array (Int × Value)) (t1 : SetTable) :
    (h.update a (Obj.putSet e1 t1)).get? a = some { o with data := .set e1 (ep + 1) t1 } := by
  have z := Heap.get?_update_self (Obj.putSet e1 t1) ho (by rw [putSet_of e1 t1 hd]; rfl)
  rw [putSet_of e1 t1 hd] at z
  exact z
theorem Es.flats {ks : List SK} {es : List (Int × Value)} (x : Es prog w h ks es) (hf : ∀ k ∈ ks, k.flat = true) : ElemsOf (mixKind prog w) es := by
  intro e he
  obtain ⟨i, hi⟩ := List.mem_iff_getElem?.mp he
  obtain ⟨k, a, b, c⟩ := x.get i e hi
  have hk := hf k (List.mem_of_getElem? a)
  cases k with
  | many _ => simp [SK.flat] at hk
  | one k =>
    refine ⟨⟨k, c, b⟩, ?_⟩
    rcases keyIs_shape c with ⟨j, t, _, e2⟩ | ⟨y, t, _, e2⟩ <;> rw [e2] <;> rfl
theorem flat_scan {k : Key} {x : Value} (hx : SK.is prog w h (.one k) x) : x.scannable = true := by
  rcases keyIs_shape hx with ⟨j, t, _, e2⟩ | ⟨y, t, _, e2⟩ <;> rw [e2] <;> rfl
theorem Es.idx {ks : List SK} {es : List (Int × Value)} (x : Es prog w h ks es) (hf : ∀ k ∈ ks, k.flat = true) (k : Key) :
    (∀ j, es.findIdx? (fun e => (mixKind prog w).is k e.2) = some j → ks[j]? = some (.one k)) ∧ (es.findIdx? (fun e => (mixKind prog w).is k e.2) = none → SK.one k ∉ ks) := by
  constructor
  · intro j hj
    obtain ⟨h1, h2, _⟩ := List.findIdx?_eq_some_iff_getElem.mp hj
    obtain ⟨k', a, b, c⟩ := x.get j es[j] (List.getElem?_eq_getElem h1)
    have hk := hf k' (List.mem_of_getElem? a)
    cases k' with
    | many _ => simp [SK.flat] at hk
    | one k' => rw [a, (mixKind prog w).inj _ _ _ c h2]
  · intro hn hin
    obtain ⟨i, hi⟩ := List.mem_iff_getElem?.mp hin
    have hil : i < es.length := by rw [← x.length]; exact (List.getElem?_eq_some_iff.mp hi).1
    obtain ⟨k', a, b, c⟩ := x.get i es[i] (List.getElem?_eq_getElem hil)
    rw [hi] at a; cases a
    have := List.findIdx?_eq_none_iff.mp hn es[i] (List.getElem_mem hil)
    rw [show (mixKind prog w).is k es[i].2 = true from c] at this; cases this
/-- a place for a key that is not there -/
theorem layNew_ok {es : Array (Int × Value)} {t : SetTable} (ok : SOk t es.toList) (hh : Int) (x : Value) :
    ∃ sl wd, layNew t es hh x = (SetTable.insertAt es (t.put sl).2 (hh, x), (t.put sl).1, wd, false) ∧ sl ≤ t.mask ∧ Reach t hh sl ∧ (wd = true → t.slot sl = .dummy) ∧ (wd = false → t.slot sl = .empty) := by
  obtain ⟨kp, hpow⟩ := ok.ok.pow
  obtain ⟨e, he, hemp⟩ := some_empty ok.ok (by have := ok.room; omega)
  obtain ⟨N, hN, hp⟩ := pos_all t.mask _ hpow hh e he
  obtain ⟨m, m1, m2, d, hd, hr⟩ := probe_go t (fun _ => hh + 1) hh (10 * SetTable.turns t.mask) (t.probeStart hh) 0 ⟨rfl, rfl, rfl, rfl⟩ ⟨N, Nat.zero_le _, by omega, by rw [hp]; exact hemp⟩
  rcases hr with ⟨h1, h2⟩ | ⟨i, nx, _, h2, _⟩
  · have hfs : t.freeSlot hh = some (d.getD (posM t.mask hh m), d.isSome) := by
      unfold SetTable.freeSlot SetTable.probe
      rw [h2]
    have key : ∃ sl wd, t.freeSlot hh = some (sl, wd) ∧ sl ≤ t.mask ∧ Reach t hh sl ∧ (wd = true → t.slot sl = .dummy) ∧ (wd = false → t.slot sl = .empty) := by
      rcases hd with hd | ⟨q, q1, q2, q3, q4⟩
      · have : d = none := hd
        subst this
        exact ⟨_, _, hfs, pos_le _ _ hpow hh m, ⟨m, rfl, fun q hq => (m2 q (Nat.zero_le _) hq).1⟩, (fun e => by cases e), fun _ => h1⟩
      · subst q3
        exact ⟨_, _, hfs, pos_le _ _ hpow hh q, ⟨q, rfl, fun q' hq => (m2 q' (Nat.zero_le _) (by omega)).1⟩, (fun _ => q4), (fun e => by cases e)⟩
    obtain ⟨sl, wd, f1, f2, f3, f4, f5⟩ := key
    refine ⟨sl, wd, ?_, f2, f3, f4, f5⟩
    have hs : t.slot sl = .empty ∨ t.slot sl = .dummy := by cases wd with
      | true => exact .inr (f4 rfl)
      | false => exact .inl (f5 rfl)
    obtain ⟨g1, g2, g3, g4, g5, _⟩ := put_ok t es hh x sl ok hs f2 f3
    have hfit : (t.put sl).1.fits (SetTable.insertAt es (t.put sl).2 (hh, x)).size = true := by
      simp only [SetTable.fits, Bool.and_eq_true, beq_iff_eq, decide_eq_true_eq]
      refine ⟨g3, ?_⟩
      have := ok.room
      rw [g2]; omega
    unfold layNew
    rw [f1]
    show (_, (t.put sl).1.orStandIn _, wd, !(t.put sl).1.fits _) = _
    unfold SetTable.orStandIn
    have hfit' : (t.put sl).1.fits (SetTable.insertAt es (SetTable.below t.place sl) (hh, x)).size = true := hfit
    rw [hfit']; rfl
  · omega
theorem relayAll_ok (t : SetTable) (es : Array (Int × Value)) (wanted : Nat) (h1 : 2 * es.size ≤ wanted) (h2 : wanted ≤ 4095) :
    ∃ t' es', relayAll t es wanted = (es', t', false) ∧ t'.led = t.led ∧ t'.plain = t.plain ∧ es'.toList.Perm es.toList ∧ SOk t' es'.toList := by
  obtain ⟨t', order, e1, e2, e3, e4, e5, e6, e7, e8, e9⟩ := relaid_ok t es wanted h1 h2
  refine ⟨t', _, ?_, e4, e5, e7, e9⟩
  unfold relayAll
  rw [e1]
  dsimp only
  have c1 : coversAll order es.size = true := List.isPerm_iff.mpr e6
  have c2 : t'.fits (order.filterMap (es[·]?)).size = true := by
    simp only [SetTable.fits, Bool.and_eq_true, beq_iff_eq, decide_eq_true_eq]
    exact ⟨by rw [e9.size, Array.length_toList], by have := e9.room; omega⟩
  rw [c1, c2]; rfl
end
section
variable {prog : Program} {w : World} {A : Around} {E : Value → Shared → Prop} {s : Shared}
theorem odd_mask {t : SetTable} {es : List (Int × Value)} (ok : SOk t es) (hh : Int) : ∃ N, 0 ≤ N ∧ N < 0 + 100000 ∧ N < 10 * SetTable.turns t.mask ∧ t.slot (posM t.mask hh N) = .empty := by
  obtain ⟨kp, hpow⟩ := ok.ok.pow
  obtain ⟨e, he, hemp⟩ := some_empty ok.ok (by have := ok.room; omega)
  obtain ⟨N, hN, hp⟩ := pos_all t.mask _ hpow hh e he
  have hb := ok.ok.big
  refine ⟨N, Nat.zero_le _, ?_, hN, by rw [hp]; exact hemp⟩
  unfold SetTable.turns at hN; omega
theorem byScan_one {es : Array (Int × Value)} {k : Key} {x : Value} {ks : List SK} (hx : SK.is prog w s.heap (.one k) x) (ent : Es prog w s.heap ks es.toList) (hf : ∀ k ∈ ks, k.flat = true) (hs : ks.length ≤ 1000) : byScan x es = true :=
  byScan_of (knd := mixKind prog w) (flat_scan hx) (by have := ent.length; simp at this; unfold scanBound; omega) (ent.flats hf)
theorem byScan_many {es : Array (Int × Value)} {a : Addr} : byScan (.ref a) es = false := rfl
/-- whether a key is there -/
theorem find_w {a : Addr} {o : Obj} {ks : List SK} {es : Array (Int × Value)} {ep : Nat} {t : SetTable} {x : Value} {k : SK} {Q : Option Nat → Shared → Prop} (hu : A.units < cLine)
    (ho : s.heap.get? a = some o) (S : SetO prog w s.heap o ks es ep t) (hk : ∀ k' ∈ ks, k'.flat = k.flat) (hx : k.is prog w s.heap x)
    (q : ∀ r : Option Nat, (∀ i, r = some i → ks[i]? = some k) → (r = none → k ∉ ks) → Q r s) : wpAny (model prog w) A (setFind a x (k.hash prog w)) Q E s := by
  unfold setFind setFindIn
  refine wpAny_bind (state_w (M := model prog w) ho S ?_)
  dsimp only
  cases k with
  | one k =>
    rw [byScan_one hx S.ent hk S.small, if_pos rfl]
    refine wpAny_bind (wpAny_rule ?_)
    refine wpAny_bind (wpAny_setScan_of (knd := mixKind prog w) hx ho S.data S.fits (S.ent.flats hk) ?_)
    obtain ⟨i1, i2⟩ := S.ent.idx hk k
    cases hr : es.toList.findIdx? (fun e => (mixKind prog w).is k e.2) with
    | none => exact wpAny_pure (q none (fun i e => by cases e) fun _ => i2 hr)
    | some j => exact wpAny_pure (q (some (0 + j)) (fun i e => by cases e; rw [Nat.zero_add]; exact i1 j hr) fun e => by cases e)
  | many kk =>
    obtain ⟨ax, rfl, hax⟩ := hx
    rw [byScan_many]
    simp only [Bool.false_eq_true, if_false]
    unfold setSearch
    refine wpAny_bind (search_w hu ho S hk ⟨ax, rfl, hax⟩ (fun i hi => ?_) (fun hn sl wd _ _ _ _ => ?_) 100000 0 none (fun _ => rfl) (fun p hp => by cases hp) (fun q hq => by omega) (odd_mask S.tab _))
    · exact wpAny_pure (q (some i) (fun j e => by cases e; exact hi) fun e => by cases e)
    · exact wpAny_pure (q none (fun i e => by cases e) fun _ => hn)
theorem hbv_w {k : SK} {x : Value} {Q : Bool → Shared → Prop} (hx : k.is prog w s.heap x) (q : ∀ b, Q b s) : wpAny (model prog w) A (hashByValue 8 x) Q E s := by
  cases k with
  | one k => rw [hashByValue_scannable 8 (flat_scan hx)]; exact wpAny_pure (q _)
  | many kk =>
    obtain ⟨a, rfl, hk⟩ := hx
    have hT := hk.typeIs
    obtain ⟨o, its, n, ho, _, hd, hi⟩ := hk
    unfold hashByValue
    refine wpAny_bind (wpAny_specialOf hT F.slot_tuple_hash.lookup ?_)
    show wpAny _ _ (seqItems? (.ref a) >>= _) Q E s
    refine wpAny_bind (wpAny_seqItems ho hd ?_)
    show wpAny _ _ (forIn its _ _ >>= _) Q E s
    refine wpAny_bind ?_
    rw [← Array.forIn_toList]
    refine wpAny_forIn_list _ (fun rest r s' => r.1 = none ∧ s' = s ∧ ∀ v ∈ rest, carriedByValue v = true ∧ v.scannable = true) _ ?_ ?_ _ _ ⟨rfl, rfl, ?_⟩
    · rintro v rest r s' ⟨hr, rfl, hall⟩
      have hv := hall v List.mem_cons_self
      show wpAny _ _ (hashByValue 7 v >>= _) _ _ _
      rw [hashByValue_scannable 7 hv.2]
      refine wpAny_bind (wpAny_pure ?_)
      cases plainKind v with
      | true =>
        simp only [Bool.not_true, Bool.false_eq_true, if_false]
        exact wpAny_pure ⟨rfl, rfl, fun u hu' => hall u (List.mem_cons_of_mem _ hu')⟩
      | false =>
        simp only [Bool.not_false, if_true]
        exact wpAny_pure (wpAny_pure (q false))
    · rintro ⟨r1, r2⟩ s' ⟨hr, rfl, _⟩
      simp only at hr
      subst hr
      exact wpAny_pure (q true)
    · intro v hv
      refine ⟨hi.byValue v hv, ?_⟩
      clear hd
      generalize its.toList = vs at hi hv
      induction hi with
      | nil => cases hv
      | cons h1 _ ih =>
        rcases List.mem_cons.mp hv with rfl | hv
        · rcases keyIs_shape h1 with ⟨j, t, _, e2⟩ | ⟨y, t, _, e2⟩ <;> rw [e2] <;> rfl
        · exact ih hv
end
end L2

set_option Elab.async false
set_option linter.all false
set_option maxRecDepth 100000
set_option maxHeartbeats 4000000
/-! MY OWN: a key put into a set -/
namespace L2
open PySem PySem.Spec PyProof.Rows L2T
section
variable {prog : Program} {w : World} {h : Heap}
def plainIf (b : Bool) (t : SetTable) : SetTable := if b then t else { t with plain := false }
theorem plainIf_mask (b : Bool) (t : SetTable) : (plainIf b t).mask = t.mask := by cases b <;> rfl
theorem plainIf_place (b : Bool) (t : SetTable) : (plainIf b t).place = t.place := by cases b <;> rfl
theorem plainIf_dummies (b : Bool) (t : SetTable) : (plainIf b t).dummies = t.dummies := by cases b <;> rfl
theorem plainIf_led (b : Bool) (t : SetTable) : (plainIf b t).led = t.led := by cases b <;> rfl
theorem plainIf_fill (b : Bool) (t : SetTable) : (plainIf b t).fill = t.fill := by cases b <;> rfl
/-- what holds behind a key's coming, its table perhaps too full -/
theorem put_facts {o : Obj} {ks : List SK} {es : Array (Int × Value)} {ep : Nat} {t : SetTable} {x : Value} {k : SK} {sl : Nat} {wd : Bool} (S : SetO prog w h o ks es ep t) (hx : k.is prog w h x)
    (h1 : sl ≤ t.mask) (h2 : Reach t (k.hash prog w) sl) (h3 : wd = true → t.slot sl = .dummy) (h4 : wd = false → t.slot sl = .empty) (bv : Bool) :
    (SetTable.insertAt es (t.put sl).2 (k.hash prog w, x)).size = es.size + 1 ∧ (plainIf bv (t.put sl).1).fits (SetTable.insertAt es (t.put sl).2 (k.hash prog w, x)).size = true ∧ (plainIf bv (t.put sl).1).led = led0 w ∧
    (SetTable.insertAt es (t.put sl).2 (k.hash prog w, x)).toList.Perm ((k.hash prog w, x) :: es.toList) ∧ (∃ k1, k1.Perm (k :: ks) ∧ Es prog w h k1 (SetTable.insertAt es (t.put sl).2 (k.hash prog w, x)).toList) ∧
    ((wd = true ∨ (plainIf bv (t.put sl).1).tooFull = false) → SOk (plainIf bv (t.put sl).1) (SetTable.insertAt es (t.put sl).2 (k.hash prog w, x)).toList) := by
  have hs : t.slot sl = .empty ∨ t.slot sl = .dummy := by cases wd with
    | true => exact .inr (h3 rfl)
    | false => exact .inl (h4 rfl)
  obtain ⟨g1, g2, g3, g4, g5, g6, g7, g8, g9⟩ := put_ok t es (k.hash prog w) x sl S.tab hs h1 h2
  have hroom := S.tab.room
  have hsz : (SetTable.insertAt es (t.put sl).2 (k.hash prog w, x)).size = es.size + 1 := by
    have := g7.length_eq; simpa using this
  refine ⟨hsz, ?_, ?_, g7, ?_, ?_⟩
  · simp only [SetTable.fits, Bool.and_eq_true, beq_iff_eq, decide_eq_true_eq]
    rw [plainIf_place, plainIf_fill, plainIf_mask]
    exact ⟨g3, by rw [g2]; omega⟩
  · rw [plainIf_led, g8]; exact S.led
  · exact (Es.cons (e := (k.hash prog w, x)) rfl hx S.ent).perm g7
  · intro hc
    refine sok_alike (t := (t.put sl).1) ⟨g1, ?_, by rw [g3, Array.length_toList], g4⟩ (plainIf_mask ..) (plainIf_place ..) (plainIf_dummies ..)
    rcases hc with hc | hc
    · rw [g6 (h3 hc), g2]; exact hroom
    · unfold SetTable.tooFull at hc
      rw [plainIf_fill, plainIf_mask] at hc
      simpa using hc
theorem SetO.newk {o : Obj} {ks : List SK} {es : Array (Int × Value)} {ep : Nat} {t : SetTable} (S : SetO prog w h o ks es ep t) {k : SK} (hk : ∀ k' ∈ ks, k'.flat = k.flat) (hn : k ∉ ks) (hr : ks.length + 1 ≤ 1000)
    {h' : Heap} {k1 : List SK} {e1 : Array (Int × Value)} {ep1 : Nat} {t1 : SetTable} (p : k1.Perm (k :: ks)) (ok : SOk t1 e1.toList) (en : Es prog w h' k1 e1.toList) (hl : t1.led = led0 w) :
    SetO prog w h' { o with data := .set e1 ep1 t1 } k1 e1 ep1 t1 :=
  ⟨S.ex, rfl, ok, en, p.nodup_iff.mpr (List.nodup_cons.mpr ⟨hn, S.nod⟩), by rw [p.length_eq]; simpa using hr, hl, k.flat, fun k' hk' => by
    rcases List.mem_cons.mp (p.mem_iff.mp hk') with rfl | e
    · rfl
    · exact hk k' e⟩
end
section
variable {prog : Program} {w : World} {A : Around} {E : Value → Shared → Prop} {s : Shared}
theorem small_fits {n : Nat} (h : n ≤ 1001) : n ≤ sizeLine := by rw [sizeLine_eq]; omega
theorem sizeAbove_line {n : Nat} (h : n ≤ 4095) : ¬ SetTable.sizeAbove n > sizeLine := by
  obtain ⟨_, _, _, _, h5⟩ := sizeAbove_ok n h
  rw [sizeLine_eq]; omega
theorem grown_small {n : Nat} (h : n ≤ 1000) : 2 * n ≤ SetTable.grown n ∧ SetTable.grown n ≤ 4095 := by
  unfold SetTable.grown
  rw [if_neg (by omega)]; omega
theorem add_w {a : Addr} {o : Obj} {ks : List SK} {es : Array (Int × Value)} {ep : Nat} {t : SetTable} {x : Value} {k : SK} {Q : Bool → Shared → Prop} (hu : A.units < cLine)
    (ho : s.heap.get? a = some o) (S : SetO prog w s.heap o ks es ep t) (hk : ∀ k' ∈ ks, k'.flat = k.flat) (hx : k.is prog w s.heap x) (hr : ks.length + 1 ≤ 1000)
    (q : ∀ h' k1 e1, Heap.SameBut a s.heap h' → SetE prog w h' a k1 e1 → k1.Perm (if k ∈ ks then ks else k :: ks) → (∀ e ∈ e1.toList, e ∈ es.toList ∨ e = (k.hash prog w, x)) → Q (decide (k ∉ ks)) { s with heap := h' }) :
    wpAny (model prog w) A (setAddHashed a x (k.hash prog w)) Q E s := by
  have hlen : es.size = ks.length := by have := S.ent.length; simp at this; omega
  have old : k ∈ ks → Q false s := fun hin => by
    have := q s.heap ks es (Heap.SameBut.refl _ _) ⟨o, ep, t, ho, S⟩ (by rw [if_pos hin]) (fun e he => .inl he)
    rw [decide_eq_false (by simpa using hin)] at this
    exact this
  have new : k ∉ ks → ∀ h' e1 ep1 t1 k1, Heap.SameBut a s.heap h' → h'.get? a = some { o with data := .set e1 ep1 t1 } → k1.Perm (k :: ks) → SOk t1 e1.toList → Es prog w s.heap k1 e1.toList → t1.led = led0 w → e1.toList.Perm ((k.hash prog w, x) :: es.toList) → Q true { s with heap := h' } := fun hn h' e1 ep1 t1 k1 hs hg p ok en hl hp => by
    have hK : KeepT s.heap h' := keepT_sameBut (es := es) (ep := ep) (t := t) ho S.ex hs
    have := q h' k1 e1 hs ⟨_, ep1, t1, hg, S.newk hk hn hr p ok (en.mono hK) hl⟩ (by rw [if_neg hn]; exact p) (fun e he => by
      rcases List.mem_cons.mp (hp.mem_iff.mp he) with z | z
      · exact .inr z
      · exact .inl z)
    rw [decide_eq_true hn] at this
    exact this
  unfold setAddHashed setAddHashedIn
  refine wpAny_holding (wpAny_bind (state_w (M := model prog w) ho S ?_))
  dsimp only
  cases k with
  | one k =>
    rw [byScan_one hx S.ent hk S.small, if_pos rfl]
    unfold setAddByScan
    refine wpAny_bind (wpAny_bind (wpAny_rule ?_))
    refine wpAny_bind (wpAny_setScan_of (knd := mixKind prog w) hx ho S.data S.fits (S.ent.flats hk) ?_)
    obtain ⟨i1, i2⟩ := S.ent.idx hk k
    cases hi : es.toList.findIdx? (fun e => (mixKind prog w).is k e.2) with
    | some j => exact wpAny_pure (wpAny_pure (old (List.mem_of_getElem? (i1 j hi))))
    | none =>
      have hn := i2 hi
      obtain ⟨sl, wd, f1, f2, f3, f4, f5⟩ := layNew_ok S.tab (SK.hash prog w (.one k)) x
      dsimp only
      rw [f1]
      refine wpAny_bind (wpAny_pure (a := ()) ?_)
      dsimp only
      have fin : ∀ (gw : Bool → Sem Unit) (hgw : ∀ (s : Shared) (Q : Unit → Shared → Prop), Q () s → wpAny (model prog w) A (gw false) Q E s) (bv : Bool), wpAny (model prog w) A (do
          storeSet a (SetTable.insertAt es (t.put sl).2 (SK.hash prog w (.one k), x)) (plainIf bv (t.put sl).1)
          if (!wd && (plainIf bv (t.put sl).1).tooFull) = true then do
            gw (relayAll (plainIf bv (t.put sl).1) (SetTable.insertAt es (t.put sl).2 (SK.hash prog w (.one k), x)) (SetTable.grown (SetTable.insertAt es (t.put sl).2 (SK.hash prog w (.one k), x)).size)).2.2
            storeSet a (relayAll (plainIf bv (t.put sl).1) (SetTable.insertAt es (t.put sl).2 (SK.hash prog w (.one k), x)) (SetTable.grown (SetTable.insertAt es (t.put sl).2 (SK.hash prog w (.one k), x)).size)).1
              (relayAll (plainIf bv (t.put sl).1) (SetTable.insertAt es (t.put sl).2 (SK.hash prog w (.one k), x)) (SetTable.grown (SetTable.insertAt es (t.put sl).2 (SK.hash prog w (.one k), x)).size)).2.1
            pure (some true)
          else pure (some true)) (fun r s' => wpAny (model prog w) A (match r with | some added => pure added | none => setAddHashedIn a x (SK.hash prog w (.one k)) 99999) Q E s') E s := by
        intro gw hgw bv
        obtain ⟨p1, p2, p3, p7, ⟨k1, p4, p5⟩, p6⟩ := put_facts (bv := bv) S (k := .one k) hx f2 f3 f4 f5
        refine wpAny_bind (wpAny_storeSet_of ho S.data ?_ (small_fits (by omega)))
        have g1 := put_get ho S.data (SetTable.insertAt es (t.put sl).2 (SK.hash prog w (.one k), x)) (plainIf bv (t.put sl).1)
        have sb1 := Heap.SameBut.update s.heap a (Obj.putSet (SetTable.insertAt es (t.put sl).2 (SK.hash prog w (.one k), x)) (plainIf bv (t.put sl).1))
        by_cases hc : (!wd && (plainIf bv (t.put sl).1).tooFull) = true
        · rw [if_pos hc]
          obtain ⟨t2, e2, r1, r2, _, r4, r5⟩ := relayAll_ok (plainIf bv (t.put sl).1) (SetTable.insertAt es (t.put sl).2 (SK.hash prog w (.one k), x)) (SetTable.grown (SetTable.insertAt es (t.put sl).2 (SK.hash prog w (.one k), x)).size)
            (grown_small (by omega)).1 (grown_small (by omega)).2
          rw [r1]
          refine wpAny_bind (hgw _ _ ?_)
          have z2 : e2.size = es.size + 1 := by rw [← p1]; have := r4.length_eq; simpa using this
          refine wpAny_bind (wpAny_storeSet_of g1 rfl ?_ (small_fits (by show e2.size ≤ 1001; omega)))
          obtain ⟨k2, q1, q2⟩ := p5.perm r4
          refine wpAny_pure (wpAny_pure (new hn _ e2 _ t2 k2 (sb1.trans (Heap.SameBut.update _ a _)) (put_get g1 rfl e2 t2) (q1.trans p4) r5 q2 (by rw [r2]; exact p3) (r4.trans p7)))
        · rw [if_neg hc]
          refine wpAny_pure (wpAny_pure (new hn _ _ _ _ k1 sb1 g1 p4 (p6 ?_) p5 p3 p7))
          cases wd with
          | true => exact .inl rfl
          | false => exact .inr (by simpa using hc)
      split
      · refine wpAny_bind (hbv_w (k := .one k) hx fun b => ?_)
        exact fin _ (fun _ _ q => wpAny_pure q) b
      · exact wpAny_bind (wpAny_pure (fin _ (fun _ _ q => wpAny_pure q) true))
  | many kk =>
    obtain ⟨ax, rfl, hax⟩ := hx
    rw [byScan_many]
    simp only [Bool.false_eq_true, if_false]
    unfold setSearch
    refine wpAny_bind (search_w hu ho S hk ⟨ax, rfl, hax⟩ (fun i hi => ?_) (fun hn sl wd f2 f3 f4 f5 => ?_) 100000 0 none (fun _ => rfl) (fun p hp => by cases hp) (fun q hq => by omega) (odd_mask S.tab _))
    · exact wpAny_pure (old (List.mem_of_getElem? hi))
    · dsimp only
      refine wpAny_bind (state_w (M := model prog w) ho S ?_)
      dsimp only
      have fin : ∀ bv : Bool, wpAny (model prog w) A (do
          storeSet a (SetTable.insertAt es (t.put sl).2 (SK.hash prog w (.many kk), .ref ax)) (plainIf bv (t.put sl).1)
          if (!wd && (plainIf bv (t.put sl).1).tooFull) = true then do
            setRelay a (SetTable.grown (es.size + 1))
            pure true
          else pure true) Q E s := by
        intro bv
        obtain ⟨p1, p2, p3, p7, ⟨k1, p4, p5⟩, p6⟩ := put_facts (bv := bv) S (k := .many kk) ⟨ax, rfl, hax⟩ f2 f3 f4 f5
        refine wpAny_bind (wpAny_storeSet_of ho S.data ?_ (small_fits (by omega)))
        have g1 := put_get ho S.data (SetTable.insertAt es (t.put sl).2 (SK.hash prog w (.many kk), .ref ax)) (plainIf bv (t.put sl).1)
        have sb1 := Heap.SameBut.update s.heap a (Obj.putSet (SetTable.insertAt es (t.put sl).2 (SK.hash prog w (.many kk), .ref ax)) (plainIf bv (t.put sl).1))
        by_cases hc : (!wd && (plainIf bv (t.put sl).1).tooFull) = true
        · rw [if_pos hc]
          obtain ⟨t2, order, r1, _, _, r2, _, _, r4, r6, r5⟩ := relaid_ok (plainIf bv (t.put sl).1) (SetTable.insertAt es (t.put sl).2 (SK.hash prog w (.many kk), .ref ax)) (SetTable.grown (es.size + 1))
            (by rw [p1]; exact (grown_small (by omega)).1) (grown_small (by omega)).2
          unfold setRelay
          refine wpAny_bind (wpAny_bind (wpAny_setState_of g1 rfl p2 ?_))
          dsimp only
          rw [if_neg (sizeAbove_line (grown_small (by omega)).2)]
          rw [r1]
          refine wpAny_bind (wpAny_ite_split (fun h => absurd h (by rw [r6]; simp)) (fun _ => wpAny_pure ?_))
          dsimp only
          refine wpAny_storeSet_of g1 rfl ?_ (small_fits (by rw [r6, p1]; omega))
          obtain ⟨k2, q1, q2⟩ := p5.perm r4
          exact wpAny_pure (new hn _ _ _ t2 k2 (sb1.trans (Heap.SameBut.update _ a _)) (put_get g1 rfl _ t2) (q1.trans p4) r5 q2 (by rw [r2]; exact p3) (r4.trans p7))
        · rw [if_neg hc]
          refine wpAny_pure (new hn _ _ _ _ k1 sb1 g1 p4 (p6 ?_) p5 p3 p7)
          cases wd with
          | true => exact .inl rfl
          | false => exact .inr (by simpa using hc)
      split
      · refine wpAny_bind (hbv_w (k := .many kk) ⟨ax, rfl, hax⟩ fun b => ?_)
        exact fin b
      · exact wpAny_bind (wpAny_pure (fin true))
end
end L2

set_option Elab.async false
set_option linter.all false
set_option maxRecDepth 100000
set_option maxHeartbeats 4000000
/-! MY OWN: the things of a set, one after the other -/
namespace L2
open PySem PySem.Spec PyProof.Rows L2T
def byText (w : World) : Bool := w.params.followText "set-order"
section
variable {prog : Program} {w : World} {A : Around} {E : Value → Shared → Prop} {s : Shared}
theorem erase_perm {α : Type} {l : List α} {i : Nat} (h : i < l.length) : (l[i] :: l.eraseIdx i).Perm l := by
  rw [List.eraseIdx_eq_take_drop_succ]
  have e : (l.take i ++ l[i] :: l.drop (i + 1)).Perm (l[i] :: (l.take i ++ l.drop (i + 1))) := List.perm_middle
  rw [List.getElem_cons_drop, List.take_append_drop] at e
  exact e.symm
theorem choose_w {src : Source} {n : Nat} {Q : Nat → Shared → Prop} (hn : n ≠ 0) (q : ∀ i d, i < n → Q i { s with drawn := d }) : wpAny (model prog w) A (choose src n) Q E s :=
  fun _ _ _ => ⟨hn, q _ _ (Nat.mod_lt _ (Nat.pos_of_ne_zero hn))⟩
theorem draw_w {α : Type} : ∀ (n : Nat) (xs : List α) (s : Shared) (Q : List α → Shared → Prop), xs.length ≤ n → (∀ l d, l.Perm xs → Q l { s with drawn := d }) → wpAny (model prog w) A (drawOrder n xs) Q E s := by
  intro n
  induction n with
  | zero =>
    intro xs s Q hl q
    have : xs = [] := List.eq_nil_of_length_eq_zero (by omega)
    subst this
    exact wpAny_pure (q [] s.drawn (.refl _))
  | succ n ih =>
    intro xs s Q hl q
    cases xs with
    | nil => exact wpAny_pure (q [] s.drawn (.refl _))
    | cons x xs =>
      unfold drawOrder
      refine wpAny_bind (choose_w (by simp) fun i d hi => ?_)
      rw [List.getElem?_eq_getElem hi]
      dsimp only
      refine wpAny_bind (ih _ _ _ ?_ fun l d' hp => ?_)
      · rw [List.length_eraseIdx_of_lt hi]; simp at hl ⊢; omega
      · refine wpAny_pure (q _ d' ?_)
        exact (hp.cons _).trans (erase_perm hi)
theorem pick_go {α : Type} (next : Nat → Nat) : ∀ (fuel k : Nat) (left : List α) (out : Array α), left.length ≤ fuel → (pickOrder.go next fuel k left out).toList.Perm (out.toList ++ left) := by
  intro fuel
  induction fuel with
  | zero =>
    intro k left out hl
    have : left = [] := List.eq_nil_of_length_eq_zero (by omega)
    subst this
    unfold pickOrder.go
    simp
  | succ fuel ih =>
    intro k left out hl
    unfold pickOrder.go
    cases left with
    | nil => simp
    | cons x l =>
      have hi : next k % (x :: l).length < (x :: l).length := Nat.mod_lt _ (by simp)
      rw [List.getElem?_eq_getElem hi]
      dsimp only
      refine (ih _ _ _ (by rw [List.length_eraseIdx_of_lt hi]; omega)).trans ?_
      rw [Array.toList_push, List.append_assoc]
      exact List.Perm.append_left _ (erase_perm hi)
theorem pick_perm {α : Type} (next : Nat → Nat) (xs : Array α) : (pickOrder next xs).toList.Perm xs.toList := by
  unfold pickOrder
  exact (pick_go next xs.size 0 xs.toList #[] (by simp)).trans (by simp)

/-- a set's object, without its keys -/
structure SetL (w : World) (o : Obj) (es : Array (Int × Value)) (ep : Nat) (t : SetTable) : Prop where
  data : o.data = .set es ep t
  tab : SOk t es.toList
  led : t.led = led0 w
theorem SetO.lite {o : Obj} {ks : List SK} {h : Heap} {es : Array (Int × Value)} {ep : Nat} {t : SetTable} (S : SetO prog w h o ks es ep t) : SetL w o es ep t := ⟨S.data, S.tab, S.led⟩
theorem SetL.fits {o : Obj} {es : Array (Int × Value)} {ep : Nat} {t : SetTable} (S : SetL w o es ep t) : t.fits es.size = true := by
  have h1 := S.tab.size
  have h2 := S.tab.room
  simp only [SetTable.fits, Bool.and_eq_true, beq_iff_eq, decide_eq_true_eq]
  exact ⟨by simpa using h1, by omega⟩
theorem stateL_w {a : Addr} {o : Obj} {es : Array (Int × Value)} {ep : Nat} {t : SetTable} {Q : Array (Int × Value) × Nat × SetTable → Shared → Prop}
    (ho : s.heap.get? a = some o) (S : SetL w o es ep t) (q : Q (es, ep, t) s) : wpAny (model prog w) A (setState a) Q E s := wpAny_setState_of ho S.data S.fits q
theorem led_text {o : Obj} {es : Array (Int × Value)} {ep : Nat} {t : SetTable} (S : SetL w o es ep t) : t.led = !byText w := S.led
/-- an iterator of a set -/
def SetIt (h : Heap) (I a : Addr) (first : Value) (i n ep : Nat) : Prop := ∃ o, h.get? I = some o ∧ o.cls = .type "set_iterator" ∧ o.data = .fields #[first, .int i 0, .ref a, .int n 0, .int ep 0]
theorem SetIt.typeIs {I a : Addr} {first : Value} {i n ep : Nat} (x : SetIt s.heap I a first i n ep) : s.TypeIs (.ref I) "set_iterator" := let ⟨o, ho, hc, _⟩ := x; ⟨o, ho, hc⟩
theorem SetIt.at {h h' : Heap} {I a : Addr} {first : Value} {i n ep : Nat} (x : SetIt h I a first i n ep) (k : ∀ o, h.get? I = some o → h'.get? I = some o) : SetIt h' I a first i n ep := let ⟨o, ho, r⟩ := x; ⟨o, k o ho, r⟩
end
end L2

set_option Elab.async false
set_option linter.all false
set_option maxRecDepth 100000
set_option maxHeartbeats 4000000
/-! MY OWN: a set walked through -/
namespace L2
open PySem PySem.Spec PyProof.Rows L2T
section
variable {prog : Program} {w : World} {A : Around} {E : Value → Shared → Prop} {s : Shared}
end
end L2

set_option Elab.async false
set_option linter.all false
set_option maxRecDepth 100000
set_option maxHeartbeats 4000000
/-! MY OWN: walks through sets; all things of a set -/
namespace L2
open PySem PySem.Spec PyProof.Rows L2T
def Keeps' (h h' : Heap) : Prop := ∀ b o, h.get? b = some o → h'.get? b = some o
theorem Keeps'.T {h h' : Heap} (k : Keeps' h h') : KeepT h h' := fun b o _ e => k b o e
section
variable {prog : Program} {w : World} {A : Around} {E : Value → Shared → Prop} {s : Shared}
theorem push_get {h : Heap} {o : Obj} : Keeps' h (h.push o) := fun b u e => Heap.get?_push_of_some _ e
end
end L2

set_option Elab.async false
set_option linter.all false
set_option maxRecDepth 100000
set_option maxHeartbeats 4000000
/-! MY OWN: a set of a list's things -/
namespace L2
open PySem PySem.Spec PyProof.Rows L2T
section
variable {prog : Program} {w : World} {A : Around} {E : Value → Shared → Prop} {s : Shared}
theorem hash_w {k : SK} {x : Value} {Q : Int → Shared → Prop} (hu : A.units < cLine) (hx : k.is prog w s.heap x) (q : ∀ tk, Q (k.hash prog w) { s with toks := tk }) : wpAny (model prog w) A (pyHash x) Q E s := by
  cases k with
  | one k => exact (mixKind prog w).pyHash hx (q _)
  | many kk => obtain ⟨a, rfl, hk⟩ := hx; exact wpAny_pyHash_tuple hu hk (q _)
/-- what a set holds of the first things of a list -/
structure Part (prog : Program) (w : World) (k0 : List SK) (items : Array Value) (i : Nat) (ks : List SK) (es : Array (Int × Value)) : Prop where
  mem : ∀ k, k ∈ ks ↔ ∃ j : Nat, j < i ∧ k0[j]? = some k
  len : ks.length ≤ i
  ent : ∀ e ∈ es.toList, ∃ j : Nat, items[j]? = some e.2
theorem set_loop {S I l : Addr} {items : Array Value} {k0 : List SK} {f : Bool} {R : Result → Shared → Prop} (hu : A.units + 1 < cLine) (hh : A.handled = none) (hSI : S ≠ I) (hSl : S ≠ l) (hIl : l ≠ I)
    (hlen : k0.length = items.size) (hn : items.size ≤ 1000) (hf : ∀ k ∈ k0, k.flat = f) :
    ∀ (m i : Nat) (s : Shared) (ks : List SK) (es : Array (Int × Value)), items.size - i = m → i ≤ items.size → s.heap.IsListIter I l i → s.heap.IsList l items → SetE prog w s.heap S ks es → Part prog w k0 items i ks es →
      (∀ (j : Nat) (v : Value) (k : SK), items[j]? = some v → k0[j]? = some k → k.is prog w s.heap v) →
      (∀ s' ks' es', (∀ b o, b ≠ I → b ≠ S → s.heap.get? b = some o → s'.heap.get? b = some o) → (∃ tk, s' = { s with heap := s'.heap, toks := tk }) → SetE prog w s'.heap S ks' es' → Part prog w k0 items items.size ks' es' → R (.ok (.ret .none)) s') →
      codeAny (model prog w) A (.builtin "set.update.loop" ⟨[.ref S, .ref I], []⟩) R s := by
  intro m
  induction m with
  | zero =>
    intro i s ks es hk hi hit hl hS hp hkey hR
    have hin : i = items.size := by omega
    subst hin
    refine codeAny_builtin F.entry_set_update_loop ?_
    rw [Around.under_plainId F.plain_set_update_loop _]
    show wpAny _ A.in1 (pyNext (.ref I) >>= _) _ _ s
    refine wpAny_bind (wpAny_pyNext_list_end (by simp [hh]) hit hl (by simp) fun h' he => ?_)
    show wpAny _ A.in1 (ret Value.none) _ _ _
    obtain ⟨o, ep, t, ho, So⟩ := hS
    have kT : KeepT s.heap h' := fun b u c e => he b u (fun z => by
      obtain ⟨oi, h1, h2, _⟩ := hit
      rw [z, h1] at e; cases e; rw [h2] at c; exact absurd c (by decide)) e
    exact wpAny_pure (hR _ ks es (fun b u h1 _ e => he b u h1 e) ⟨s.toks, rfl⟩ ⟨o, ep, t, he S o hSI ho, So.mono kT⟩ hp)
  | succ m ih =>
    intro i s ks es hk hi hit hl hS hp hkey hR
    have hlt : i < items.size := by omega
    have hv : items[i]? = some items[i] := Array.getElem?_eq_getElem hlt
    have hki : k0[i]? = some (k0[i]'(by omega)) := List.getElem?_eq_getElem _
    have hx := hkey i _ _ hv hki
    have hfi := hf _ (List.mem_of_getElem? hki)
    generalize k0[i]'(by omega) = k at hki hx hfi
    refine codeAny_builtin F.entry_set_update_loop ?_
    rw [Around.under_plainId F.plain_set_update_loop _]
    show wpAny _ A.in1 (pyNext (.ref I) >>= _) _ _ s
    refine wpAny_bind (wpAny_pyNext_list_item hit hl hv fun h1 hit1 sb1 => ?_)
    have kT1 : KeepT s.heap h1 := fun b u c e => (sb1.2 b (fun z => by
      obtain ⟨oi, g1, g2, _⟩ := hit
      rw [z, g1] at e; cases e; rw [g2] at c; exact absurd c (by decide))).trans e
    obtain ⟨o, ep, t, ho, So⟩ := hS
    have ho1 : h1.get? S = some o := (sb1.2 S hSI).trans ho
    show wpAny _ A.in1 (holding [items[i]] (setAdd S items[i]) >>= _) _ _ _
    refine wpAny_bind (wpAny_holding ?_)
    unfold setAdd
    refine wpAny_holding (wpAny_bind (hash_w (by simp only [Around.in1_units]; omega) (SK.is_mono kT1 hx) fun tk => ?_))
    have kin : ∀ k' ∈ ks, k'.flat = k.flat := fun k' hk' => by
      obtain ⟨j, _, hj⟩ := (hp.mem k').mp hk'
      rw [hf _ (List.mem_of_getElem? hj), hfi]
    refine add_w (s := { s with heap := h1, toks := tk }) (by simp only [Around.in1_units]; omega) ho1 (So.mono kT1) kin (SK.is_mono kT1 hx) (by have := hp.len; omega) fun h2 k2 e2 sb2 S2 p2 en2 => ?_
    have hp2 : Part prog w k0 items (i + 1) k2 e2 := by
      refine ⟨fun k' => ?_, ?_, fun e he => ?_⟩
      · rw [p2.mem_iff]
        constructor
        · intro hm
          have hm' : k' ∈ k :: ks := by
            split at hm
            · exact List.mem_cons_of_mem _ hm
            · exact hm
          rcases List.mem_cons.mp hm' with e | e
          · exact ⟨i, by omega, by rw [e]; exact hki⟩
          · obtain ⟨j, hj, hkj⟩ := (hp.mem k').mp e; exact ⟨j, by omega, hkj⟩
        · rintro ⟨j, hj, hkj⟩
          have hm' : k' = k ∨ k' ∈ ks := by
            rcases Nat.lt_or_ge j i with c | c
            · exact .inr ((hp.mem k').mpr ⟨j, c, hkj⟩)
            · have : j = i := by omega
              subst this; rw [hki] at hkj; cases hkj; exact .inl rfl
          split
          · rename_i hin
            rcases hm' with e | e
            · rw [e]; exact hin
            · exact e
          · rcases hm' with e | e
            · rw [e]; exact List.mem_cons_self
            · exact List.mem_cons_of_mem _ e
      · rw [p2.length_eq]
        have := hp.len
        split
        · omega
        · simp; omega
      · rcases en2 e he with z | z
        · exact hp.ent e z
        · exact ⟨i, by rw [z]; exact hv⟩
    have k12 : KeepT h1 h2 := keepT_sameBut (es := es) (ep := ep) (t := t) ho1 So.ex sb2
    refine wpAny_pure ⟨plainId_quiet F.plain_set_update_loop _, ih (i + 1) _ k2 e2 (by omega) hlt ?_ ?_ S2 hp2 (fun j v k' h3 h4 => SK.is_mono (fun b u c e => k12 b u c (kT1 b u c e)) (hkey j v k' h3 h4)) fun s' k3 e3 kp ⟨tk', hs'⟩ S3 p3 => ?_⟩
    · exact hit1.at fun u e => (sb2.2 I (Ne.symm hSI)).trans e
    · exact (hl.extBut sb1.extBut hIl).at fun u e => (sb2.2 l (Ne.symm hSl)).trans e
    · refine hR s' k3 e3 (fun b u h3 h4 e => kp b u h3 h4 ((sb2.2 b h4).trans ((sb1.2 b h3).trans e))) ⟨tk', ?_⟩ S3 p3
      rw [hs']
end
end L2

set_option Elab.async false
set_option linter.all false
set_option maxRecDepth 100000
set_option maxHeartbeats 4000000
/-! MY OWN: set(list) -/
namespace L2
open PySem PySem.Spec PyProof.Rows L2T
section
variable {prog : Program} {w : World} {A : Around} {E : Value → Shared → Prop} {s : Shared}
theorem new_setE {h : Heap} {a : Addr} {led : Bool} (hl : led = led0 w) (hg : h.get? a = some { cls := .type "set", dict := none, data := .set #[] 0 (.fresh 0 0 led) }) : SetE prog w h a [] #[] :=
  ⟨_, 0, _, hg, ⟨rfl, rfl, rfl⟩, rfl, sok_fresh 0 0 led, .nil, List.nodup_nil, by simp, hl, true, fun k hk => by cases hk⟩
theorem set_new_w (a : Value) {Q1 : Value → Shared → Prop} (h : Q1 (.ref s.heap.objs.size) { s with heap := s.heap.push { cls := .type "set", dict := none, data := .set #[] 0 (.fresh 0 0 (led0 w)) } }) :
    codeAny (model prog w) A (.call (.builtin "set.__new__") ⟨[.type "set", a], []⟩) (wants Q1 E) s := by
  refine codeAny_of_tree ?_
  show wpAny _ A.in1 (do checkBuiltinCall "set.__new__" ⟨[.type "set", a], []⟩; again (.builtin "set.__new__" ⟨[.type "set", a], []⟩)) _ _ s
  refine wpAny_bind (wpAny_of_eq (F.newCall_set_1 a) (wpAny_pure ⟨plainId_quiet F.plain_set_new _, codeAny_builtin F.entry_set_new ?_⟩))
  rw [Around.under_plainId F.plain_set_new _]
  unfold Builtin.«set.__new__» Builtin.Frozenset.newClass
  have hsub := sub_set_self
  obtain ⟨hp, g, d, tk, os⟩ := s
  dsimp only
  wp_walk
  refine wpAny_askSetting (wpAny_pure ?_)
  dsimp only
  simp only [newObj]
  refine wpAny_bind (wpAny_alloc (wpAny_pure ?_))
  exact wpAny_pure h
theorem call_set_w {l : Addr} {items : Array Value} {k0 : List SK} {f : Bool} {Q : Value → Shared → Prop} (hu : A.units + 16 < cLine) (hh : A.handled = none) (hl : s.heap.IsList l items) (hlen : k0.length = items.size) (hn : items.size ≤ 1000) (hf : ∀ k ∈ k0, k.flat = f)
    (hkey : ∀ (j : Nat) (v : Value) (k : SK), items[j]? = some v → k0[j]? = some k → k.is prog w s.heap v)
    (q : ∀ h' tk ks es, Keeps' s.heap h' → SetE prog w h' s.heap.objs.size ks es → Part prog w k0 items items.size ks es → Q (.ref s.heap.objs.size) { s with heap := h', toks := tk }) :
    wpAny (model prog w) A (call (.type "set") [.ref l]) Q E s := by
  obtain ⟨c, tl, hmro⟩ := F.called_set.mro
  have hmade := F.called_set.made
  have hsub := F.called_set.sub
  refine wpAny_call (codeAny_of_tree ?_)
  show wpAny _ _ (callAny (.type "set") _) _ _ _
  refine wpAny_pure ⟨Code.quiet_builtin _ (by decide +kernel), codeAny_builtin F.entry_type_call ?_⟩
  rw [Around.under_plain (weight_type_call_type "set" [.ref l] []) rfl]
  have h1 := F.called_set.notType
  have h2 := F.called_set.canCreate
  have hct := F.typeCall_set_1 (.ref l)
  repeat (any_goals (first | assumption | wp_step))
  refine codeAny_mono (set_new_w (.ref l) (E := E) (Q1 := fun obj s1 => obj = .ref s.heap.objs.size ∧ s1 = { s with heap := s.heap.push { cls := .type "set", dict := none, data := .set #[] 0 (.fresh 0 0 (led0 w)) } }) ⟨rfl, rfl⟩) fun r s1 hr => ?_
  cases r with
  | error e => exact hr
  | ok fl =>
    cases fl with
    | ret obj =>
      obtain ⟨rfl, rfl⟩ := hr
      generalize hN : s.heap.push { cls := .type "set", dict := none, data := .set #[] 0 (.fresh 0 0 (led0 w)) } = hp1
      have hS : hp1.get? s.heap.objs.size = some { cls := .type "set", dict := none, data := .set #[] 0 (.fresh 0 0 (led0 w)) } := by rw [← hN]; exact Heap.get?_push_size _ rfl
      have k1 : Keeps' s.heap hp1 := by rw [← hN]; exact push_get
      have z1 : hp1.objs.size = s.heap.objs.size + 1 := by rw [← hN, Heap.size_push]
      have hT : Shared.TypeIs { s with heap := hp1 } (.ref s.heap.objs.size) "set" := ⟨_, hS, rfl⟩
      have hli := F.called_set.init.lookup
      have hbi := F.called_set.init.bind (.ref s.heap.objs.size)
      repeat (any_goals (first | assumption | wp_step))
      refine codeAny_mono (codeAny_call_builtin (R := wants (fun r s2 => r = .none ∧ ∃ h' tk ks es, s2 = { s with heap := h', toks := tk } ∧ Keeps' s.heap h' ∧ SetE prog w h' s.heap.objs.size ks es ∧ Part prog w k0 items items.size ks es) E)
        F.called_set.init.plain F.entry_set_init (check_set_init_1 hT ?_)) fun r2 s2 hr2 => ?_
      · obtain ⟨ol, hol, hcl, nl, hdl⟩ := id hl
        obtain ⟨ocls, odict, odata, oslots⟩ := ol
        simp only at hcl hdl
        subst hcl; subst hdl
        have hol' := k1 _ _ hol
        have hsls := F.sub_list_set
        have hslf := F.sub_list_frozenset
        have hne : (Value.type "list" == Value.type "dict") = false := by decide
        have hl1 : hp1.IsList l items := ⟨_, hol', rfl, nl, rfl⟩
        unfold Builtin.«set.__init__» noKeywords Builtin.Frozenset.updateFrom
        generalize hPI : pyIter = PI
        wp_walk
        subst hPI
        refine wpAny_pyIter_list hl1 ?_
        refine wpAny_bind (wpAny_runValue ?_)
        have hlS : l < s.heap.objs.size := Heap.lt_size hol
        have hIt : (hp1.push { cls := .type "list_iterator", data := .fields #[.ref l, .int 0 0] }).IsListIter hp1.objs.size l 0 := ⟨_, Heap.get?_push_size _ rfl, rfl, rfl⟩
        refine set_loop (S := s.heap.objs.size) (I := hp1.objs.size) (l := l) (items := items) (k0 := k0) (f := f) ?hu ?hh ?n1 ?n2 ?n3 hlen hn hf (items.size - 0) 0 _ [] #[] (by omega) (Nat.zero_le _) hIt (hl1.push _) (new_setE rfl (push_get _ _ hS)) ⟨fun k => ⟨(fun h => by cases h), (fun ⟨j, hj, _⟩ => by omega)⟩, by simp, (fun e he => by cases he)⟩ (fun j v k a b => SK.is_mono (fun b u _ e => push_get _ _ (k1 _ _ e)) (hkey j v k a b)) ?hR
        case hu => simp only [Around.in1_units]; omega
        case hh => simp [hh]
        case n1 => rw [z1]; exact Nat.ne_of_lt (Nat.lt_succ_self _)
        case n2 => exact Nat.ne_of_gt hlS
        case n3 => rw [z1]; exact Nat.ne_of_lt (Nat.lt_succ_of_lt hlS)
        case hR =>
          intro s' ks' es' kp ⟨tk', hs'⟩ S' p'
          show wpAny _ _ _ _ _ _
          refine wpAny_pure ?_
          show wpAny _ _ (ret Value.none) _ _ _
          refine wpAny_pure ⟨rfl, s'.heap, tk', ks', es', hs', fun b o e => ?_, S', p'⟩
          have hb := Heap.lt_size e
          exact kp b o (by rw [z1]; exact Nat.ne_of_lt (Nat.lt_succ_of_lt hb)) (Nat.ne_of_lt hb) (push_get _ _ (k1 _ _ e))
      · cases r2 with
        | error e => exact hr2
        | ok fl2 =>
          cases fl2 with
          | ret r =>
            obtain ⟨rfl, h', tk, ks, es, rfl, a1, a2, a3⟩ := hr2
            repeat (any_goals (first | assumption | wp_step))
            exact q _ _ _ _ a1 a2 a3
          | _ => exact hr2.elim
    | _ => exact hr.elim
end
end L2

set_option Elab.async false
set_option linter.all false
set_option maxRecDepth 100000
set_option maxHeartbeats 4000000
/-! MY OWN: sets met, joined, lessened: what they rest on -/
namespace L2
open PySem PySem.Spec PyProof.Rows L2T
section
variable {prog : Program} {w : World} {A : Around} {E : Value → Shared → Prop} {s : Shared}
theorem text_w {Q : Bool → Shared → Prop} (q : Q (byText w) s) : wpAny (model prog w) A setsByText Q E s := by
  unfold setsByText
  exact wpAny_bind (wpAny_askSetting (wpAny_pure q))
theorem setWalk_w {a : Addr} {o : Obj} {es : Array (Int × Value)} {ep : Nat} {t : SetTable} {Q : Array (Int × Value) → Shared → Prop} (ho : s.heap.get? a = some o) (S : SetL w o es ep t)
    (q : ∀ (e1 : Array (Int × Value)) (d : Drawn), e1.toList.Perm es.toList → Q e1 { s with drawn := d }) : wpAny (model prog w) A (setWalk a) Q E s := by
  unfold setWalk
  refine wpAny_bind (stateL_w ho S ?_)
  dsimp only
  refine wpAny_bind (text_w ?_)
  cases hb : byText w with
  | true =>
    rw [if_pos rfl]
    refine wpAny_bind (wpAny_askSetting (wpAny_pure ?_))
    exact q _ s.drawn (pick_perm _ _)
  | false =>
    simp only [Bool.false_eq_true, if_false]
    refine wpAny_ite_split (fun _ => ?_) (fun _ => ?_)
    · refine wpAny_bind (draw_w _ _ _ _ (by simp) fun l d hp => wpAny_pure (q l.toArray d (by simpa using hp)))
    · have hld := led_text S
      rw [hb] at hld
      exact wpAny_bind (wpAny_ite_split (fun h => absurd h (by rw [hld]; simp)) (fun _ => wpAny_pure (wpAny_pure (q es s.drawn (.refl _)))))
theorem quiet_w {Q : Bool → Shared → Prop} (q : ∀ b, Q b s) : ∀ sets : List Addr, (∀ a ∈ sets, ∃ ks es, SetE prog w s.heap a ks es) → wpAny (model prog w) A (setsQuiet sets) Q E s := by
  intro sets hs
  unfold setsQuiet
  refine wpAny_bind ?_
  refine wpAny_forIn_list _ (fun rest r s' => r.1 = none ∧ s' = s ∧ ∀ a ∈ rest, ∃ ks es, SetE prog w s.heap a ks es) _ ?_ ?_ _ _ ⟨rfl, rfl, hs⟩
  · rintro a rest r s' ⟨hr, rfl, hall⟩
    obtain ⟨ks, es, o, ep, t, ho, So⟩ := hall a List.mem_cons_self
    have hrest : ∀ a ∈ rest, ∃ ks es, SetE prog w s'.heap a ks es := fun y hy => hall y (List.mem_cons_of_mem _ hy)
    refine wpAny_bind (wpAny_setEntries_of ho So.data So.fits ?_)
    refine wpAny_bind ?_
    rw [← Array.forIn_toList]
    have hel : ∀ e ∈ es.toList, ∃ k, SK.is prog w s'.heap k e.2 := fun e he => by
      obtain ⟨i, hi⟩ := List.mem_iff_getElem?.mp he
      obtain ⟨k, _, _, c⟩ := So.ent.get i e hi
      exact ⟨k, c⟩
    refine wpAny_forIn_list _ (fun rest r s1 => r.1 = none ∧ s1 = s' ∧ ∀ e ∈ rest, ∃ k, SK.is prog w s'.heap k e.2) _ ?_ ?_ _ _ ⟨rfl, rfl, hel⟩
    · rintro ⟨hv, x⟩ rest r s1 ⟨hr1, rfl, hall1⟩
      obtain ⟨k, hk⟩ := hall1 _ List.mem_cons_self
      have hrest1 : ∀ e ∈ rest, ∃ k, SK.is prog w s1.heap k e.2 := fun y hy => hall1 y (List.mem_cons_of_mem _ hy)
      cases k with
      | one k =>
        have : ∀ a, x ≠ .ref a := fun a e => by
          rcases keyIs_shape hk with ⟨j, t, _, e2⟩ | ⟨y, t, _, e2⟩ <;> (rw [show x = _ from e2] at e; cases e)
        cases x with
        | ref a => exact absurd rfl (this a)
        | _ => exact wpAny_pure ⟨rfl, rfl, hrest1⟩
      | many kk =>
        obtain ⟨b, e, hb⟩ := hk
        have e' : x = .ref b := e
        subst e'
        refine wpAny_bind (wpAny_specialOf hb.typeIs F.slot_tuple_eq.lookup ?_)
        rw [if_pos (by decide +kernel)]
        exact wpAny_pure (wpAny_pure (wpAny_pure (q false)))
    · rintro ⟨r1, r2⟩ s1 ⟨hr1, rfl, _⟩
      simp only at hr1
      subst hr1
      exact wpAny_pure ⟨rfl, rfl, hrest⟩
  · rintro ⟨r1, r2⟩ s' ⟨hr, rfl, _⟩
    simp only at hr
    subst hr
    exact wpAny_pure (q true)
/-- a set walked, another one filled -/
theorem walkU_w {a f : Addr} {others : List Addr} {o : Obj} {ks kf : List SK} {es ef : Array (Int × Value)} {ep : Nat} {t : SetTable} {Q : Array (Int × Value) → Shared → Prop} (ho : s.heap.get? a = some o) (S : SetO prog w s.heap o ks es ep t)
    (hoth : ∀ b ∈ others, ∃ k e, SetE prog w s.heap b k e) (hf : SetE prog w s.heap f kf ef)
    (q : ∀ (e1 : Array (Int × Value)) (h' : Heap) (d : Drawn), e1.toList.Perm es.toList → Heap.SameBut f s.heap h' → SetE prog w h' f kf ef → Q e1 { s with heap := h', drawn := d }) :
    wpAny (model prog w) A (setWalkUnseen a others (some f)) Q E s := by
  unfold setWalkUnseen
  refine wpAny_bind (state_w (M := model prog w) ho S ?_)
  dsimp only
  refine wpAny_bind (text_w ?_)
  refine wpAny_ite_split (fun _ => ?_) (fun _ => ?_)
  · exact setWalk_w ho S.lite fun e1 d hp => q e1 s.heap d hp (Heap.SameBut.refl _ _) hf
  · refine wpAny_bind (quiet_w (fun b => ?_) (a :: others) fun b hb => ?_)
    · refine wpAny_ite_split (fun _ => ?_) (fun _ => ?_)
      · exact setWalk_w ho S.lite fun e1 d hp => q e1 s.heap d hp (Heap.SameBut.refl _ _) hf
      · refine wpAny_bind (wpAny_rule ?_)
        obtain ⟨of, epf, tf, hof, Sf⟩ := hf
        refine wpAny_bind (state_w (M := model prog w) hof Sf ?_)
        dsimp only
        refine wpAny_ite_split (fun _ => ?_) (fun _ => ?_)
        · have hz : ef.size ≤ sizeLine := small_fits (by have := Sf.small; have := Sf.ent.length; simp at this; omega)
          refine wpAny_bind (wpAny_storeSet_of hof Sf.data (wpAny_pure ?_) hz)
          have sb := Heap.SameBut.update s.heap f (Obj.putSet ef { tf with led := tf.led && t.led, plain := tf.plain && t.plain })
          refine q es _ s.drawn (.refl _) sb ⟨_, epf + 1, { tf with led := tf.led && t.led, plain := tf.plain && t.plain }, put_get hof Sf.data _ _, ?_⟩
          exact ⟨Sf.ex, rfl, sok_alike Sf.tab rfl rfl rfl, Sf.ent.mono (keepT_sameBut (es := ef) (ep := epf) (t := tf) hof Sf.ex sb), Sf.nod, Sf.small, by
            show (tf.led && t.led) = _
            rw [Sf.led, S.led]; simp, Sf.kind⟩
        · exact wpAny_pure (q es s.heap s.drawn (.refl _) (Heap.SameBut.refl _ _) ⟨of, epf, tf, hof, Sf⟩)
    · rcases List.mem_cons.mp hb with rfl | hb
      · exact ⟨ks, es, o, ep, t, ho, S⟩
      · exact hoth b hb
end
end L2

set_option Elab.async false
set_option linter.all false
set_option maxRecDepth 100000
set_option maxHeartbeats 4000000
/-! MY OWN: & of two sets; - of two sets, by what stays -/
namespace L2
open PySem PySem.Spec PyProof.Rows L2T
section
variable {prog : Program} {w : World} {A : Around} {E : Value → Shared → Prop} {s : Shared}
theorem SetE.mono {h h' : Heap} {a : Addr} {ks : List SK} {es : Array (Int × Value)} (x : SetE prog w h a ks es) (g : ∀ o, h.get? a = some o → h'.get? a = some o) (K : KeepT h h') : SetE prog w h' a ks es :=
  let ⟨o, ep, t, ho, S⟩ := x; ⟨o, ep, t, g o ho, S.mono K⟩
theorem SetE.typeIs {a : Addr} {ks : List SK} {es : Array (Int × Value)} (x : SetE prog w s.heap a ks es) : s.TypeIs (.ref a) "set" := let ⟨o, _, _, ho, S⟩ := x; ⟨o, ho, S.ex.1⟩
theorem SetE.keepT {h h' : Heap} {a : Addr} {ks : List SK} {es : Array (Int × Value)} (x : SetE prog w h a ks es) (sb : Heap.SameBut a h h') : KeepT h h' :=
  let ⟨_, ep, t, ho, S⟩ := x; keepT_sameBut (es := es) (ep := ep) (t := t) ho S.ex sb
theorem newSet_w {Q : Value → Shared → Prop} (q : SetE prog w (s.heap.push { cls := .type "set", dict := none, data := .set #[] 0 (.fresh 0 0 (led0 w)) }) s.heap.objs.size [] #[] → Q (.ref s.heap.objs.size) { s with heap := s.heap.push { cls := .type "set", dict := none, data := .set #[] 0 (.fresh 0 0 (led0 w)) } }) :
    wpAny (model prog w) A (newSet (.type "set")) Q E s := by
  unfold newSet
  refine wpAny_bind (text_w ?_)
  dsimp only
  simp only [newObj]
  refine wpAny_bind (wpAny_alloc (wpAny_pure (q ?_)))
  exact ⟨_, 0, _, Heap.get?_push_size _ rfl, ⟨rfl, rfl, rfl⟩, rfl, sok_fresh 0 0 _, .nil, List.nodup_nil, by simp, rfl, true, fun k hk => by cases hk⟩
theorem base_w {a : Addr} {ks : List SK} {es : Array (Int × Value)} {Q : Value → Shared → Prop} (x : SetE prog w s.heap a ks es) (q : Q (.type "set") s) : wpAny (model prog w) A (Builtin.Frozenset.baseOf a) Q E s := by
  unfold Builtin.Frozenset.baseOf
  exact wpAny_bind (wpAny_isInstance x.typeIs sub_set_self (wpAny_pure q))
theorem any_w {a : Addr} {ks : List SK} {es : Array (Int × Value)} {Q : Bool → Shared → Prop} (x : SetE prog w s.heap a ks es) (q : Q true s) : wpAny (model prog w) A (Builtin.Frozenset.isAnySet (.ref a)) Q E s := by
  unfold Builtin.Frozenset.isAnySet
  exact wpAny_bind (wpAny_isInstance x.typeIs sub_set_self (wpAny_pure q))
theorem sizeE_w {a : Addr} {ks : List SK} {es : Array (Int × Value)} {Q : Nat → Shared → Prop} (x : SetE prog w s.heap a ks es) (q : Q es.size s) : wpAny (model prog w) A (Builtin.Frozenset.sizeOf a) Q E s := by
  obtain ⟨o, ep, t, ho, S⟩ := x
  unfold Builtin.Frozenset.sizeOf
  exact wpAny_bind (wpAny_setEntries_of ho S.data S.fits (wpAny_pure q))
/-- what was taken over so far: of the walked things, those that pass -/
structure Took (kb : List SK) (p : SK → Bool) (es0 : List (Int × Value)) (kd : List SK) (kr : List SK) (er : Array (Int × Value)) : Prop where
  mem : ∀ k, k ∈ kr ↔ k ∈ kb ∨ (k ∈ kd ∧ p k = true)
  len : kr.length ≤ kb.length + kd.length
  ent : ∀ e ∈ er.toList, e ∈ es0
/-- a loop that takes over what passes -/
theorem take_loop {r : Addr} {ks kb : List SK} {es0 : List (Int × Value)} {f : Bool} {p : SK → Bool} {hp : Heap} (body : Int × Value → Sem (ForInStep Unit)) (hf : ∀ k ∈ ks, k.flat = f) (hg : ∀ k ∈ kb, k.flat = f) (hn : kb.length + ks.length ≤ 1000)
    (hb : ∀ (e : Int × Value) (k : SK) (s : Shared) (kr : List SK) (er : Array (Int × Value)) (Q : ForInStep Unit → Shared → Prop), k ∈ ks → e.1 = k.hash prog w → k.is prog w s.heap e.2 → SetE prog w s.heap r kr er → (∀ k' ∈ kr, k'.flat = k.flat) → kr.length + 1 ≤ 1000 →
      (∀ b o, b ≠ r → hp.get? b = some o → s.heap.get? b = some o) → KeepT hp s.heap →
      (∀ h' k1 e1, Heap.SameBut r s.heap h' → SetE prog w h' r k1 e1 → (∀ k', k' ∈ k1 ↔ k' ∈ kr ∨ (k' = k ∧ p k = true)) → k1.length ≤ kr.length + 1 → (∀ e' ∈ e1.toList, e' ∈ er.toList ∨ e' = e) → Q (.yield ()) { s with heap := h' }) →
      wpAny (model prog w) A (body e) Q E s) :
    ∀ (l : List (Int × Value)) (kl kd : List SK) (s : Shared) (kr : List SK) (er : Array (Int × Value)) (Q : Unit → Shared → Prop), Es prog w hp kl l → (∀ e ∈ l, e ∈ es0) → kd ++ kl = ks → KeepT hp s.heap → (∀ b o, b ≠ r → hp.get? b = some o → s.heap.get? b = some o) → SetE prog w s.heap r kr er → Took kb p es0 kd kr er →
      (∀ h' k1 e1, Heap.SameBut r s.heap h' → SetE prog w h' r k1 e1 → Took kb p es0 ks k1 e1 → Q () { s with heap := h' }) →
      wpAny (model prog w) A (forIn l () fun e _ => body e) Q E s := by
  intro l
  induction l with
  | nil =>
    intro kl kd s kr er Q x hin hks K Kb hr tk q
    cases x
    rw [List.append_nil] at hks; subst hks
    exact wpAny_pure (q s.heap kr er (Heap.SameBut.refl _ _) hr tk)
  | cons e l ih =>
    intro kl kd s kr er Q x hin hks K Kb hr tk q
    cases x with
    | @cons k _ kl' _ h1 h2 x' =>
      rw [List.forIn_cons]
      have hkf : k.flat = f := hf k (by rw [← hks]; simp)
      refine wpAny_bind (hb e k s kr er _ (by rw [← hks]; simp) h1 (SK.is_mono K h2) hr (fun k' hk' => ?_) ?_ Kb K fun h' k1 e1 sb S1 m1 l1 en1 => ?_)
      · rw [hkf]
        rcases (tk.mem k').mp hk' with z | z
        · exact hg k' z
        · exact hf k' (by rw [← hks]; exact List.mem_append_left _ z.1)
      · have := tk.len
        have hl : ks.length = kd.length + (k :: kl').length := by rw [← hks, List.length_append]
        simp at hl; omega
      · have kT := hr.keepT sb
        refine ih kl' (kd ++ [k]) { s with heap := h' } k1 e1 Q x' (fun e' he' => hin e' (List.mem_cons_of_mem _ he')) (by rw [← hks]; simp) (fun b o c z => kT b o c (K b o c z)) (fun b o hb' z => (sb.2 b hb').trans (Kb b o hb' z)) S1 ⟨fun k' => ?_, ?_, fun e' he' => ?_⟩ fun h2 k2 e2 sb2 S2 t2 => q h2 k2 e2 (sb.trans sb2) S2 t2
        · rw [m1, tk.mem, List.mem_append, List.mem_singleton]
          constructor
          · rintro ((c | ⟨a, b⟩) | ⟨rfl, b⟩)
            · exact .inl c
            · exact .inr ⟨.inl a, b⟩
            · exact .inr ⟨.inr rfl, b⟩
          · rintro (c | ⟨a | rfl, b⟩)
            · exact .inl (.inl c)
            · exact .inl (.inr ⟨a, b⟩)
            · exact .inr ⟨rfl, b⟩
        · have := tk.len; simp; omega
        · rcases en1 e' he' with z | z
          · exact tk.ent e' z
          · rw [z]; exact hin e List.mem_cons_self
end
end L2

set_option Elab.async false
set_option linter.all false
set_option maxRecDepth 100000
set_option maxHeartbeats 4000000
/-! MY OWN: & of two sets; - of two sets, by what stays -/
namespace L2
open PySem PySem.Spec PyProof.Rows L2T
section
variable {prog : Program} {w : World} {A : Around} {E : Value → Shared → Prop} {s : Shared}
theorem unch_w {nm : String} {a : Addr} {o : Obj} {es : Array (Int × Value)} {ep : Nat} {t : SetTable} {Q : Unit → Shared → Prop} (ho : s.heap.get? a = some o) (S : SetL w o es ep t) (q : Q () s) : wpAny (model prog w) A (Builtin.Frozenset.unchanged nm a ep) Q E s := by
  unfold Builtin.Frozenset.unchanged
  refine wpAny_bind (wpAny_setEpoch_of ho S.data S.fits ?_)
  simp only [bne_self_eq_false, Bool.false_eq_true, if_false]
  exact wpAny_pure q
theorem Es.mem {h : Heap} {ks : List SK} {es : List (Int × Value)} (x : Es prog w h ks es) {e : Int × Value} (he : e ∈ es) : ∃ k ∈ ks, e.1 = k.hash prog w ∧ k.is prog w h e.2 := by
  obtain ⟨i, hi⟩ := List.mem_iff_getElem?.mp he
  obtain ⟨k, a, b, c⟩ := x.get i e hi
  exact ⟨k, List.mem_of_getElem? a, b, c⟩
/-- the walked set's things that the asked one has, or has not, come into r -/
theorem pass_w {wk ak r : Addr} {kw ka : List SK} {ew ea : Array (Int × Value)} {nm : String} {ep : Nat} {ow : Obj} {tw : SetTable} {f : Bool} {Q : Unit → Shared → Prop} (body : Int × Value → Sem (ForInStep Unit)) (neg : Bool) (hu : A.units < cLine)
    (hbody : ∀ (h : Int) (x : Value) (s : Shared) (Q : ForInStep Unit → Shared → Prop),
      wpAny (model prog w) A (setFind ak x h) (fun rr s1 =>
        ((rr.isSome != neg) = true → wpAny (model prog w) A (setAddHashed r x h) (fun _ s2 => wpAny (model prog w) A (Builtin.Frozenset.unchanged nm wk ep) (fun _ s3 => Q (.yield ()) s3) E s2) E s1) ∧
        ((rr.isSome != neg) = false → wpAny (model prog w) A (Builtin.Frozenset.unchanged nm wk ep) (fun _ s3 => Q (.yield ()) s3) E s1)) E s → wpAny (model prog w) A (body (h, x)) Q E s)
    (hw : s.heap.get? wk = some ow) (Sw : SetO prog w s.heap ow kw ew ep tw) (xa : SetE prog w s.heap ak ka ea) (xr : SetE prog w s.heap r [] #[]) (hwr : wk ≠ r) (har : ak ≠ r) (hfw : ∀ k ∈ kw, k.flat = f) (hfa : ∀ k ∈ ka, k.flat = f)
    (e1 : Array (Int × Value)) (he1 : e1.toList.Perm ew.toList)
    (q : ∀ h' kr er, Heap.SameBut r s.heap h' → SetE prog w h' r kr er → (∀ k, k ∈ kr ↔ k ∈ kw ∧ (decide (k ∈ ka) != neg) = true) → (∀ e ∈ er.toList, e ∈ ew.toList) → Q () { s with heap := h' }) :
    wpAny (model prog w) A (forIn e1 () fun e _ => body e) Q E s := by
  obtain ⟨k1, p1, x1⟩ := Sw.ent.perm he1
  rw [← Array.forIn_toList]
  refine take_loop (r := r) (ks := k1) (kb := []) (es0 := ew.toList) (f := f) (p := fun k => decide (k ∈ ka) != neg) (hp := s.heap) body (fun k hk => hfw k (p1.mem_iff.mp hk)) (fun k hk => by cases hk) (by have := p1.length_eq; have := Sw.small; simp; omega) ?_ e1.toList k1 [] s [] #[] Q x1 (fun e he => he1.mem_iff.mp he) (by simp) (fun _ _ _ e => e) (fun _ _ _ e => e) xr ⟨fun k => by simp, by simp, fun e he => by simp at he⟩ fun h' kr er sb S' tk => q h' kr er sb S' (fun k => by rw [tk.mem, p1.mem_iff]; simp) tk.ent
  rintro ⟨hh, x⟩ k s1 kr er Q1 hk0 h1 h2 S1 hk1 hr1 Kb K q1
  dsimp only at h1 h2
  subst h1
  have hin : k ∈ kw := p1.mem_iff.mp hk0
  obtain ⟨oa, epa, ta, hoa, Sa⟩ := xa
  have hoa1 := Kb ak oa har hoa
  have Sa1 := Sa.mono K
  have hw1 := Kb wk ow hwr hw
  refine hbody _ _ _ _ (find_w hu hoa1 Sa1 (fun k' hk' => by rw [hfa k' hk', hfw k hin]) h2 fun rr f1 f2 => ?_)
  have hrr : rr.isSome = decide (k ∈ ka) := by
    cases rr with
    | none => exact (decide_eq_false (f2 rfl)).symm
    | some i => exact (decide_eq_true (List.mem_of_getElem? (f1 i rfl))).symm
  rw [hrr]
  obtain ⟨or, epr, tr, hor, Sr⟩ := id S1
  refine ⟨fun hp => ?_, fun hp => ?_⟩
  · refine add_w hu hor Sr hk1 h2 hr1 fun h' k2 e2 sb S2 p2 en2 => ?_
    refine unch_w ((sb.2 wk hwr).trans hw1) Sw.lite (q1 h' k2 e2 sb S2 (fun k' => ?_) ?_ en2)
    · rw [p2.mem_iff]
      split
      · rename_i hkr
        exact ⟨.inl, fun z => z.elim id fun z => z.1 ▸ hkr⟩
      · rw [List.mem_cons]
        exact ⟨fun z => z.elim (fun z => .inr ⟨z, hp⟩) .inl, fun z => z.elim .inr fun z => .inl z.1⟩
    · rw [p2.length_eq]; split <;> simp
  · refine unch_w hw1 Sw.lite (q1 s1.heap kr er (Heap.SameBut.refl _ _) S1 (fun k' => ⟨.inl, fun z => z.elim id fun z => ?_⟩) (by omega) fun e he => .inl he)
    have h3 : (decide (k ∈ ka) != neg) = true := z.2
    rw [hp] at h3; cases h3
/-- the things of two sets that both have -/
theorem inter_w {a b : Addr} {ka kb : List SK} {ea eb : Array (Int × Value)} {f : Bool} {nm : String} {Q : Value → Shared → Prop} (hu : A.units < cLine) (hab : a ≠ b) (xa : SetE prog w s.heap a ka ea) (xb : SetE prog w s.heap b kb eb)
    (hfa : ∀ k ∈ ka, k.flat = f) (hfb : ∀ k ∈ kb, k.flat = f)
    (q : ∀ (h' : Heap) (d : Drawn) (r : Addr) kr er, Keeps' s.heap h' → s.heap.objs.size ≤ r → SetE prog w h' r kr er → (∀ k, k ∈ kr ↔ k ∈ ka ∧ k ∈ kb) → (∀ e ∈ er.toList, e ∈ ea.toList ∨ e ∈ eb.toList) → Q (.ref r) { s with heap := h', drawn := d }) :
    wpAny (model prog w) A (Builtin.Frozenset.intersection nm a (.ref b)) Q E s := by
  have hba : (Value.ref b == Value.ref a) = false := by
    rw [beq_eq_false_iff_ne]; exact fun e => by cases e; exact hab rfl
  unfold Builtin.Frozenset.intersection
  rw [hba]
  simp only [Bool.false_eq_true, if_false]
  refine wpAny_bind (base_w xa ?_)
  refine wpAny_bind (newSet_w fun xr => ?_)
  generalize hN : s.heap.push { cls := .type "set", dict := none, data := .set #[] 0 (.fresh 0 0 (led0 w)) } = h1 at xr ⊢
  have k1 : Keeps' s.heap h1 := by rw [← hN]; exact push_get
  have xa1 : SetE prog w h1 a ka ea := xa.mono (fun o e => k1 a o e) k1.T
  have xb1 : SetE prog w h1 b kb eb := xb.mono (fun o e => k1 b o e) k1.T
  have hra : a ≠ s.heap.objs.size := let ⟨_, _, _, ho, _⟩ := xa; Nat.ne_of_lt (Heap.lt_size ho)
  have hrb : b ≠ s.heap.objs.size := let ⟨_, _, _, ho, _⟩ := xb; Nat.ne_of_lt (Heap.lt_size ho)
  refine wpAny_bind (wpAny_pure ?_)
  refine wpAny_bind (wpAny_holding ?_)
  refine wpAny_bind (any_w (s := { s with heap := h1 }) xb1 ?_)
  simp only [if_true]
  refine wpAny_bind (wpAny_pure ?_)
  refine wpAny_bind (sizeE_w (s := { s with heap := h1 }) xb1 ?_)
  refine wpAny_bind (sizeE_w (s := { s with heap := h1 }) xa1 ?_)
  have fin : ∀ (wk ak : Addr) (kw kk : List SK) (ew ek : Array (Int × Value)), SetE prog w h1 wk kw ew → SetE prog w h1 ak kk ek → wk ≠ s.heap.objs.size → ak ≠ s.heap.objs.size → (∀ k ∈ kw, k.flat = f) → (∀ k ∈ kk, k.flat = f) →
      (∀ k, k ∈ kw ∧ k ∈ kk ↔ k ∈ ka ∧ k ∈ kb) → (∀ e ∈ ew.toList, e ∈ ea.toList ∨ e ∈ eb.toList) →
      wpAny (model prog w) A (do
        let was ← setEpoch wk
        for (h, x) in ← setWalkUnseen wk [ak, s.heap.objs.size] (some s.heap.objs.size) do
          holding [x] do
            if (← setFind ak x h).isSome then
              let _ ← setAddHashed s.heap.objs.size x h
          Builtin.Frozenset.unchanged nm wk was) (fun _ s' => wpAny (model prog w) A (pure (Value.ref s.heap.objs.size)) Q E s') E { s with heap := h1 } := by
    intro wk ak kw kk ew ek xw xk hw hk f1 f2 hm he
    obtain ⟨ow, epw, tw, how, Sw⟩ := id xw
    refine wpAny_bind (wpAny_setEpoch_of how Sw.data Sw.fits ?_)
    refine wpAny_bind (walkU_w how Sw (fun c hc => ?_) xr fun e1 h2 d p2 sb2 xr2 => ?_)
    · simp only [List.mem_cons, List.not_mem_nil, or_false] at hc
      rcases hc with rfl | rfl
      · exact ⟨_, _, xk⟩
      · exact ⟨_, _, xr⟩
    · have kT := xr.keepT sb2
      refine wpAny_bind (pass_w (s := { s with heap := h2, drawn := d }) (wk := wk) (ak := ak) (nm := nm) (ep := epw) (f := f) _ false hu ?_ ((sb2.2 wk hw).trans how) (Sw.mono kT) (xk.mono (fun o e => (sb2.2 ak hk).trans e) kT) xr2 hw hk f1 f2 e1 p2 fun h3 kr er sb3 S3 m3 en3 => ?_)
      · intro h x s1 Q1 hq
        refine wpAny_bind (wpAny_holding (wpAny_bind (wpAny_mono hq (fun rr s2 hr => ?_) fun _ _ z => z)))
        cases hrr : rr.isSome with
        | true =>
          rw [if_pos rfl]
          exact wpAny_bind (wpAny_mono (hr.1 (by rw [hrr]; rfl)) (fun _ s3 z => wpAny_pure (wpAny_bind (wpAny_mono z (fun _ _ y => wpAny_pure y) fun _ _ y => y))) fun _ _ z => z)
        | false =>
          simp only [Bool.false_eq_true, if_false]
          exact wpAny_pure (wpAny_bind (wpAny_mono (hr.2 (by rw [hrr]; rfl)) (fun _ _ y => wpAny_pure y) fun _ _ y => y))
      · refine wpAny_pure (wpAny_pure ?_)
        refine q h3 d _ kr er (fun b o e => ?_) (Nat.le_refl _) S3 (fun k => ?_) (fun e z => he e (en3 e z))
        · have hb : b ≠ s.heap.objs.size := Nat.ne_of_lt (Heap.lt_size e)
          exact (sb3.2 b hb).trans ((sb2.2 b hb).trans (k1 b o e))
        · rw [m3, ← hm]; simp
  split
  · exact fin a b ka kb ea eb xa1 xb1 hra hrb hfa hfb (fun k => Iff.rfl) (fun e h => .inl h)
  · exact fin b a kb ka eb ea xb1 xa1 hrb hra hfb hfa (fun k => And.comm) (fun e h => .inr h)
end
end L2

set_option Elab.async false
set_option linter.all false
set_option maxRecDepth 100000
set_option maxHeartbeats 4000000
/-! MY OWN: - of two sets, by what stays; a set given room; sets poured together -/
namespace L2
open PySem PySem.Spec PyProof.Rows L2T
section
variable {prog : Program} {w : World} {A : Around} {E : Value → Shared → Prop} {s : Shared}
end
end L2

set_option Elab.async false
set_option linter.all false
set_option maxRecDepth 100000
set_option maxHeartbeats 4000000
/-! MY OWN: a set poured into another one; copies; | of two sets -/
namespace L2
open PySem PySem.Spec PyProof.Rows L2T
section
variable {prog : Program} {w : World} {A : Around} {E : Value → Shared → Prop} {s : Shared}
end
end L2

set_option Elab.async false
set_option linter.all false
set_option maxRecDepth 100000
set_option maxHeartbeats 4000000
/-! MY OWN: things taken out of a set; - of two sets -/
namespace L2
open PySem PySem.Spec PyProof.Rows L2T
section
variable {prog : Program} {w : World} {A : Around} {E : Value → Shared → Prop} {s : Shared}
theorem Es.erase {h : Heap} {ks : List SK} {es : List (Int × Value)} (x : Es prog w h ks es) : ∀ i, Es prog w h (ks.eraseIdx i) (es.eraseIdx i) := by
  induction x with
  | nil => intro i; exact .nil
  | cons a b y ih =>
    intro i
    cases i with
    | zero => exact y
    | succ i => exact .cons a b (ih i)
end
end L2

set_option Elab.async false
set_option linter.all false
set_option maxRecDepth 100000
set_option maxHeartbeats 4000000
/-! MY OWN: &, -, | of two sets -/
namespace L2
open PySem PySem.Spec PyProof.Rows L2T
section
variable {prog : Program} {w : World} {A : Around} {E : Value → Shared → Prop} {s : Shared}
theorem so_entry_and : entryFor table "set.__and__" = some Builtin.«frozenset.__and__» := entryFor_alias (id' := "frozenset.__and__") (by kernel_rfl) rfl (by decide +kernel) (by kernel_rfl)
end
end L2

set_option Elab.async false
set_option linter.all false
set_option maxRecDepth 100000
set_option maxHeartbeats 4000000
/-! MY OWN: &, -, | of two sets, as operations -/
namespace L2
open PySem PySem.Spec PyProof.Rows L2T
section
variable {prog : Program} {w : World} {A : Around} {E : Value → Shared → Prop} {s : Shared}
/-- what an operation makes: a new set of just the keys that pass -/
def NewSet (prog : Program) (w : World) (s : Shared) (ea eb : Array (Int × Value)) (m : SK → Prop) (Q : Value → Shared → Prop) : Prop :=
  ∀ (h' : Heap) (d : Drawn) (r : Addr) kr er, Keeps' s.heap h' → s.heap.objs.size ≤ r → SetE prog w h' r kr er → (∀ k, k ∈ kr ↔ m k) → (∀ e ∈ er.toList, e ∈ ea.toList ∨ e ∈ eb.toList) → Q (.ref r) { s with heap := h', drawn := d }
theorem and_w {a b : Addr} {ka kb : List SK} {ea eb : Array (Int × Value)} {f : Bool} {Q : Value → Shared → Prop} (hu : A.units + 8 < cLine) (hab : a ≠ b) (xa : SetE prog w s.heap a ka ea) (xb : SetE prog w s.heap b kb eb)
    (hfa : ∀ k ∈ ka, k.flat = f) (hfb : ∀ k ∈ kb, k.flat = f) (q : NewSet prog w s ea eb (fun k => k ∈ ka ∧ k ∈ kb) Q) : wpAny (model prog w) A (binaryOp .BitAnd (.ref a) (.ref b)) Q E s := by
  refine wpAny_binaryOp_same (op := .BitAnd) xa.typeIs xb.typeIs F.fills_set_and F.slot_set_and (wpAny_call_entry F.slot_set_and xa.typeIs so_entry_and ?_ (F.args_set_and_2 _ _))
  show wpAny _ _ (Builtin.Frozenset.slot1 "__and__" _ >>= _) _ _ _
  unfold Builtin.Frozenset.slot1
  refine wpAny_bind (wpAny_bind (wpAny_pure (wpAny_pure ?_)))
  show wpAny _ _ ((Builtin.Frozenset.isAnySet (.ref a) <&&> Builtin.Frozenset.isAnySet (.ref b)) >>= _) _ _ _
  refine wpAny_bind (wpAny_bind (any_w xa ?_))
  show wpAny _ _ (Builtin.Frozenset.isAnySet (.ref b)) _ _ _
  refine any_w xb ?_
  simp only [Bool.not_true, Bool.false_eq_true, if_false]
  refine wpAny_bind (wpAny_pure ?_)
  refine wpAny_bind (inter_w (f := f) (by simp only [Around.in1_units]; omega) hab xa xb hfa hfb fun h' d r kr er K hr S m en => wpAny_pure ⟨_, rfl, fun e => (by cases e), q h' d r kr er K hr S m en⟩)
end
end L2

set_option Elab.async false
set_option linter.all false
set_option maxRecDepth 100000
set_option maxHeartbeats 4000000
/-! MY OWN ADDITIONS to the hand layer: sets of texts, of numbers, of tuples of these -/
namespace L2
open PySem PySem.Spec PyProof.Rows L2T
def D.kk : D → Key
  | .int i => .inl i
  | .str l => .inr (T l)
  | _ => .inl 0
def D.fl : D → Bool
  | .int _ => true
  | .str _ => true
  | _ => false
def D.sk : D → SK
  | .tup ds => .many (ds.map D.kk)
  | d => .one d.kk
/-- what a set may hold: flat things (true), or tuples of flat things (false) -/
def D.hk : Bool → D → Bool
  | true, d => d.fl
  | false, .tup ds => ds.all D.fl
  | false, _ => false
theorem kk_inj {d e : D} (h1 : d.fl = true) (h2 : e.fl = true) (h : d.kk = e.kk) : d = e := by
  cases d <;> simp [D.fl] at h1 <;> cases e <;> simp [D.fl] at h2 <;> simp [D.kk] at h
  · rw [h]
  · rw [T_inj] at h; rw [h]
theorem kks_inj : ∀ {ds es : List D}, ds.all D.fl = true → es.all D.fl = true → ds.map D.kk = es.map D.kk → ds = es
  | [], [], _, _, _ => rfl
  | [], _ :: _, _, _, h => by simp at h
  | _ :: _, [], _, _, h => by simp at h
  | d :: ds, e :: es, h1, h2, h => by
    simp only [List.all_cons, Bool.and_eq_true] at h1 h2
    simp only [List.map_cons, List.cons.injEq] at h
    rw [kk_inj h1.1 h2.1 h.1, kks_inj h1.2 h2.2 h.2]
theorem sk_inj {f : Bool} {d e : D} (h1 : d.hk f = true) (h2 : e.hk f = true) (h : d.sk = e.sk) : d = e := by
  cases f with
  | true =>
    simp only [D.hk] at h1 h2
    have e1 : d.sk = .one d.kk := by cases d <;> first | rfl | simp [D.fl] at h1
    have e2 : e.sk = .one e.kk := by cases e <;> first | rfl | simp [D.fl] at h2
    rw [e1, e2] at h
    injection h with h
    exact kk_inj h1 h2 h
  | false =>
    cases d <;> simp [D.hk] at h1
    cases e <;> simp [D.hk] at h2
    simp [D.sk] at h
    rw [kks_inj (by simpa using h1) (by simpa using h2) h]
theorem sk_flat {f : Bool} {d : D} (h : d.hk f = true) : d.sk.flat = f := by
  cases f with
  | true => cases d <;> simp [D.hk, D.fl] at h <;> rfl
  | false => cases d <;> simp [D.hk] at h; rfl
section
variable (P : Program) (w : World)
/-- a set's object, as the layer sees it -/
def setHO (p : Addr) (ks : List SK) (xs : List V) : HO := .ext fun h => ∃ o es ep t, h.get? p = some o ∧ o.ExactSet ∧ SetL w o es ep t ∧ es.toList.map (·.1) = ks.map (SK.hash P w) ∧ Vals xs (es.toList.map (·.2)) ∧ ks.Nodup ∧ ks.length ≤ 1000
end
section
variable {X : Cx} {pins : List (Addr × Obj)} {σ : St} {H : Hp} {s : Shared}
theorem Inv.drw (I : Inv X pins σ H s) (d : Drawn) : Inv X pins σ H { s with drawn := d } := ⟨I.ok, I.os, I.bare, I.base, I.loc, I.cell, I.free, I.freeC, I.pin, I.hok, I.len⟩
theorem kk_is {d : D} {x : V} {u : Value} (hf : d.fl = true) (r : Rep X.K H d x) (q : RelV x u) : (mixKind X.prog X.w).is d.kk u = true := by
  cases d <;> simp [D.fl] at hf
  · rw [r.of_int] at q; obtain ⟨t, rfl⟩ := q; exact mixKind_int ..
  · rw [r.of_str] at q; obtain ⟨t, rfl⟩ := q; exact mixKind_str ..
theorem kks_is : ∀ {ds : List D} {xs : List V} {us : List Value}, ds.all D.fl = true → Reps X.K H ds xs → Vals xs us → ItemsAre (mixKind X.prog X.w) (ds.map D.kk) us
  | [], _, _, _, r, q => by rw [Reps] at r; subst r; cases q; exact .nil
  | d :: ds, _, _, hf, r, q => by
    rw [Reps] at r
    obtain ⟨x, xs, rfl, r1, r2⟩ := r
    simp only [List.all_cons, Bool.and_eq_true] at hf
    cases q with
    | cons q1 q2 => exact .cons (kk_is hf.1 r1 q1) (kks_is hf.2 r2 q2)
theorem Inv.sk (I : Inv X pins σ H s) {f : Bool} {d : D} {x : V} {u : Value} (hf : d.hk f = true) (r : Rep X.K H d x) (q : RelV x u) : d.sk.is X.prog X.w s.heap u := by
  cases f with
  | true =>
    have e1 : d.sk = .one d.kk := by cases d <;> first | rfl | simp [D.hk, D.fl] at hf
    rw [e1]; exact kk_is (by simpa [D.hk] using hf) r q
  | false =>
    cases d <;> simp [D.hk] at hf
    rename_i ds
    obtain ⟨p, xs, rfl, sq, rs⟩ := r.of_tup
    cases q
    obtain ⟨its, rv, ⟨o, e, c, n, hd⟩, _⟩ := I.tuple sq
    exact ⟨p, rfl, o, its.toArray, n, e, c, hd, by simpa using kks_is (by simpa using hf) rs rv⟩
theorem es_of (I : Inv X pins σ H s) {f : Bool} : ∀ {ds : List D} {xs : List V} {es : List (Int × Value)}, (∀ d ∈ ds, d.hk f = true) → Reps X.K H ds xs → Vals xs (es.map (·.2)) → es.map (·.1) = (ds.map D.sk).map (SK.hash X.prog X.w) → Es X.prog X.w s.heap (ds.map D.sk) es
  | [], _, es, _, r, q, _ => by
    rw [Reps] at r; subst r
    cases es with
    | nil => exact .nil
    | cons _ _ => cases q
  | d :: ds, _, es, hf, r, q, hh => by
    rw [Reps] at r
    obtain ⟨x, xs, rfl, r1, r2⟩ := r
    cases es with
    | nil => cases q
    | cons e es =>
      simp only [List.map_cons, List.cons.injEq] at hh
      cases q with
      | cons q1 q2 => exact .cons hh.1 (I.sk (hf d List.mem_cons_self) r1 q1) (es_of I (fun d' h => hf d' (List.mem_cons_of_mem _ h)) r2 q2 hh.2)
/-- a set of the layer is a set of the heap -/
theorem Inv.setE (I : Inv X pins σ H s) {f : Bool} {a : Addr} {ds : List D} {xs : List V} (e : H a = some (setHO X.prog X.w a (ds.map D.sk) xs)) (hf : ∀ d ∈ ds, d.hk f = true) (r : Reps X.K H ds xs) :
    ∃ es, SetE X.prog X.w s.heap a (ds.map D.sk) es ∧ Vals xs (es.toList.map (·.2)) := by
  obtain ⟨⟨o, es, ep, t, ho, hx, S, hh, rv, hn, hl⟩, _, _⟩ := I.hok a _ e
  exact ⟨es, ⟨o, ep, t, ho, hx, S.data, S.tab, es_of I hf r rv hh, hn, hl, S.led, f, fun k hk => by
    obtain ⟨d, hd, rfl⟩ := List.mem_map.mp hk
    exact sk_flat (hf d hd)⟩, rv⟩
/-- a thing of the one list or of the other, with its value -/
def Src (da : List D) (xa : List V) (db : List D) (xb : List V) (dr : List D) (xr : List V) : Prop :=
  dr.length = xr.length ∧ ∀ (i : Nat) d x, dr[i]? = some d → xr[i]? = some x → ∃ j : Nat, (da[j]? = some d ∧ xa[j]? = some x) ∨ (db[j]? = some d ∧ xb[j]? = some x)
theorem Src.reps {K : PySem.W.Frag} {F : Hp} {da db dr : List D} {xa xb xr : List V} (h : Src da xa db xb dr xr) (ra : Reps K F da xa) (rb : Reps K F db xb) : Reps K F dr xr := by
  obtain ⟨hl, h⟩ := h
  induction dr generalizing xr with
  | nil => cases xr with
    | nil => exact Reps.nil
    | cons _ _ => simp at hl
  | cons d dr ih => cases xr with
    | nil => simp at hl
    | cons x xr =>
      refine Reps.cons ?_ (ih (by simpa using hl) fun i d' x' h1 h2 => h (i + 1) d' x' h1 h2)
      obtain ⟨j, ⟨h1, h2⟩ | ⟨h1, h2⟩⟩ := h 0 d x rfl rfl
      · obtain ⟨x', e, r⟩ := ra.get' h1
        rw [h2] at e; cases e; exact r
      · obtain ⟨x', e, r⟩ := rb.get' h1
        rw [h2] at e; cases e; exact r
theorem Src.mem {da db dr : List D} {xa xb xr : List V} (h : Src da xa db xb dr xr) {d : D} (hd : d ∈ dr) : d ∈ da ∨ d ∈ db := by
  obtain ⟨i, hi⟩ := List.mem_iff_getElem?.mp hd
  have hil := (List.getElem?_eq_some_iff.mp hi).1
  obtain ⟨j, ⟨h1, _⟩ | ⟨h1, _⟩⟩ := h.2 i d (xr[i]'(by have := h.1; omega)) hi (List.getElem?_eq_getElem _)
  · exact .inl (List.mem_of_getElem? h1)
  · exact .inr (List.mem_of_getElem? h1)
theorem is_inj {h : Heap} {k k' : SK} {v : Value} (a : k.is X.prog X.w h v) (b : k'.is X.prog X.w h v) (hf : k.flat = k'.flat) : k = k' := by
  cases k <;> cases k' <;> simp [SK.flat] at hf
  · exact congrArg _ ((mixKind X.prog X.w).inj _ _ _ a b)
  · obtain ⟨u, e1, i1⟩ := a
    obtain ⟨v, e2, i2⟩ := b
    rw [e1] at e2; cases e2
    exact congrArg _ (i1.inj i2)
/-- the things of a new set, from where they came -/
theorem src_of {h' : Heap} {f : Bool} {da db : List D} {xa xb : List V} {ea eb : List (Int × Value)} (K' : KeepT s.heap h') (Ea : Es X.prog X.w s.heap (da.map D.sk) ea) (Eb : Es X.prog X.w s.heap (db.map D.sk) eb) (va : Vals xa (ea.map (·.2))) (vb : Vals xb (eb.map (·.2)))
    (hfa : ∀ d ∈ da, d.hk f = true) (hfb : ∀ d ∈ db, d.hk f = true) : ∀ {kr : List SK} {er : List (Int × Value)}, Es X.prog X.w h' kr er → (∀ k ∈ kr, k.flat = f) → (∀ e ∈ er, e ∈ ea ∨ e ∈ eb) →
    ∃ dr xr, dr.map D.sk = kr ∧ Vals xr (er.map (·.2)) ∧ Src da xa db xb dr xr := by
  intro kr er x
  induction x with
  | nil => intro _ _; exact ⟨[], [], rfl, .nil, rfl, fun i d x h => by simp at h⟩
  | @cons k e kr er h1 h2 _ ih =>
    intro hk hin
    obtain ⟨dr, xr, a, b, c⟩ := ih (fun k h => hk k (List.mem_cons_of_mem _ h)) fun e h => hin e (List.mem_cons_of_mem _ h)
    have pick : ∀ (dz : List D) (xz : List V) (ez : List (Int × Value)), Es X.prog X.w s.heap (dz.map D.sk) ez → Vals xz (ez.map (·.2)) → (∀ d ∈ dz, d.hk f = true) → e ∈ ez → ∃ (j : Nat) (d : D) (x : V), dz[j]? = some d ∧ xz[j]? = some x ∧ d.sk = k ∧ RelV x e.2 := by
      intro dz xz ez E1 v1 hf1 hm
      obtain ⟨j, hj⟩ := List.mem_iff_getElem?.mp hm
      obtain ⟨k', g1, g2, g3⟩ := E1.get j e hj
      rw [List.getElem?_map] at g1
      cases hd : dz[j]? with
      | none => rw [hd] at g1; cases g1
      | some d =>
        rw [hd] at g1
        have g1' : d.sk = k' := by simpa using g1
        have hjl : j < xz.length := by
          have := v1.length
          have := (List.getElem?_eq_some_iff.mp hj).1
          simp at *; omega
        obtain ⟨u, hu, ru⟩ := v1.get (List.getElem?_eq_getElem hjl)
        rw [List.getElem?_map, hj] at hu
        have hu' : e.2 = u := by simpa using hu
        refine ⟨j, d, _, hd, List.getElem?_eq_getElem hjl, ?_, by rw [hu']; exact ru⟩
        rw [g1']
        refine is_inj (SK.is_mono K' g3) h2 ?_
        rw [← g1', sk_flat (hf1 d (List.mem_of_getElem? hd)), hk k List.mem_cons_self]
    rcases hin e List.mem_cons_self with hm | hm
    · obtain ⟨j, d, y, p1, p2, p3, p4⟩ := pick da xa ea Ea va hfa hm
      refine ⟨d :: dr, y :: xr, by rw [List.map_cons, p3, a], .cons p4 b, by simp [c.1], fun i d' x' q1 q2 => ?_⟩
      cases i with
      | zero => simp at q1 q2; subst q1; subst q2; exact ⟨j, .inl ⟨p1, p2⟩⟩
      | succ i => exact c.2 i d' x' q1 q2
    · obtain ⟨j, d, y, p1, p2, p3, p4⟩ := pick db xb eb Eb vb hfb hm
      refine ⟨d :: dr, y :: xr, by rw [List.map_cons, p3, a], .cons p4 b, by simp [c.1], fun i d' x' q1 q2 => ?_⟩
      cases i with
      | zero => simp at q1 q2; subst q1; subst q2; exact ⟨j, .inr ⟨p1, p2⟩⟩
      | succ i => exact c.2 i d' x' q1 q2
theorem setHO_ok {h' : Heap} {r : Addr} {H' : Hp} {dr : List D} {xr : List V} {er : Array (Int × Value)} (S : SetE X.prog X.w h' r (dr.map D.sk) er) (v : Vals xr (er.toList.map (·.2))) : ObjOk X.prog X.w H' h' r (setHO X.prog X.w r (dr.map D.sk) xr) := by
  obtain ⟨o, ep, t, ho, S⟩ := S
  refine ⟨⟨o, er, ep, t, ho, S.ex, S.lite, ?_, v, S.nod, S.small⟩, ⟨o, ho⟩, ?_⟩
  · have := S.ent
    generalize dr.map D.sk = kr at this
    generalize er.toList = el at this
    induction this with
    | nil => rfl
    | cons a _ _ ih => simp [a, ih]
  · rintro h1 h2 ⟨o, es, ep, t, ho, r⟩ k
    exact ⟨o, es, ep, t, k o ho, r⟩
end
end L2

set_option Elab.async false
set_option linter.all false
set_option maxRecDepth 100000
set_option maxHeartbeats 4000000
/-! sets as rules of the layer -/
namespace L2
open PySem PySem.Spec PyProof.Rows L2T
section
variable (P : Program) (w : World) (K : PySem.W.Frag)
/-- set(a list) -/
def rSetOf (f : Bool) : List V → Hp → VK → Prop := fun vs H Q => ∃ a xs ds, vs = [.ref a] ∧ SqL K H a xs ∧ Reps K H ds xs ∧ (∀ d ∈ ds, d.hk f = true) ∧ ds.length ≤ 1000 ∧
  ∀ r dr xr, H r = none → dr.Nodup → (∀ d, d ∈ dr ↔ d ∈ ds) → Src ds xs [] [] dr xr → Q (.ref r) (upd H r (setHO P w r (dr.map D.sk) xr))
/-- an operation of two sets -/
def rSet2 (f : Bool) (m : List D → List D → D → Prop) : R2 := fun x y H Q => ∃ a b da db xa xb, x = .ref a ∧ y = .ref b ∧ a ≠ b ∧ H a = some (setHO P w a (da.map D.sk) xa) ∧ H b = some (setHO P w b (db.map D.sk) xb) ∧
  Reps K H da xa ∧ Reps K H db xb ∧ (∀ d ∈ da, d.hk f = true) ∧ (∀ d ∈ db, d.hk f = true) ∧ da.length + db.length ≤ 1000 ∧
  ∀ r dr xr, H r = none → dr.Nodup → (∀ d, d ∈ dr ↔ m da db d) → Src da xa db xb dr xr → Q (.ref r) (upd H r (setHO P w r (dr.map D.sk) xr))
def mAnd (da db : List D) (d : D) : Prop := d ∈ da ∧ d ∈ db
/-- len(a set) -/
def rLenS (f : Bool) : List V → Hp → VK → Prop := fun vs H Q => ∃ a xs ds, vs = [.ref a] ∧ H a = some (setHO P w a (ds.map D.sk) xs) ∧ Reps K H ds xs ∧ (∀ d ∈ ds, d.hk f = true) ∧ Q (.int ds.length) H
end
theorem sk_mem {f : Bool} {ds : List D} (hf : ∀ d ∈ ds, d.hk f = true) {d : D} (hd : d.hk f = true) : d.sk ∈ ds.map D.sk ↔ d ∈ ds := by
  constructor
  · intro h
    obtain ⟨e, he, h2⟩ := List.mem_map.mp h
    rw [← sk_inj (hf e he) hd h2]; exact he
  · exact fun h => List.mem_map_of_mem h
theorem sk_nodup {dr : List D} (h : (dr.map D.sk).Nodup) : dr.Nodup := by
  unfold List.Nodup at *
  rw [List.pairwise_map] at h
  exact h.imp fun a e => a (congrArg _ e)
section
variable {X : Cx}
theorem call_setL {f : Bool} (hc : X.calm = true) (hu : X.A.units + 64 < cLine) : CallR X (.type "set") (rSetOf X.prog X.w X.K f) := by
  intro pins s σ H vs us Q I r h
  obtain ⟨a, xs, ds, rfl, hq, rs, hf, hl, q⟩ := h
  obtain ⟨u, rfl, ru⟩ := vals1 r
  cases ru
  obtain ⟨its, rv, pl, _⟩ := I.list hq
  have l1 := rs.length
  have l2 := rv.length
  have hk0 : ∀ k ∈ ds.map D.sk, k.flat = f := fun k hk => by obtain ⟨d, hd, rfl⟩ := List.mem_map.mp hk; exact sk_flat (hf d hd)
  have hkey : ∀ (j : Nat) (v : Value) (k : SK), its.toArray[j]? = some v → (ds.map D.sk)[j]? = some k → k.is X.prog X.w s.heap v := fun j v k h1 h2 => by
    rw [List.getElem?_map] at h2
    cases hd : ds[j]? with
    | none => rw [hd] at h2; cases h2
    | some d =>
      rw [hd] at h2
      have : d.sk = k := by simpa using h2
      subst this
      obtain ⟨x, hx, rx⟩ := rs.get' hd
      obtain ⟨u, hu', ru⟩ := rv.get hx
      have h1' : its[j]? = some v := by simpa using h1
      rw [h1'] at hu'; cases hu'
      exact I.sk (hf d (List.mem_of_getElem? hd)) rx ru
  refine call_set_w (k0 := ds.map D.sk) (f := f) (by omega) (I.ok.hd hc) pl.isList (by simp; omega) (by simp; omega) hk0 hkey fun h' tk ks es K' S p => ?_
  have hex : ∀ (kr : List SK) (el : List (Int × Value)), Es X.prog X.w h' kr el → (∀ k ∈ kr, k.flat = f) → (∀ e ∈ el, ∃ j : Nat, its.toArray[j]? = some e.2) → ∃ dr xr, dr.map D.sk = kr ∧ Vals xr (el.map (·.2)) ∧ Src ds xs [] [] dr xr := by
    intro kr el en
    induction en with
    | nil => intro _ _; exact ⟨[], [], rfl, .nil, rfl, fun i d x h => by simp at h⟩
    | @cons k e kr er g1 g2 _ ih =>
      intro hkk hent
      obtain ⟨dr, xr, a1, b1, c1⟩ := ih (fun k h => hkk k (List.mem_cons_of_mem _ h)) fun e h => hent e (List.mem_cons_of_mem _ h)
      obtain ⟨j, hj⟩ := hent e List.mem_cons_self
      have hj' : its[j]? = some e.2 := by simpa using hj
      have hjl := (List.getElem?_eq_some_iff.mp hj').1
      have hjd : ds[j]? = some (ds[j]'(by omega)) := List.getElem?_eq_getElem _
      obtain ⟨x, hx, rx⟩ := rs.get' hjd
      obtain ⟨u, hu', ru⟩ := rv.get hx
      rw [hj'] at hu'; cases hu'
      have hdk := hf _ (List.mem_of_getElem? hjd)
      have hsk : (ds[j]'(by omega)).sk = k := is_inj (SK.is_mono K'.T (I.sk hdk rx ru)) g2 (by rw [sk_flat hdk, hkk k List.mem_cons_self])
      refine ⟨_ :: dr, x :: xr, by rw [List.map_cons, hsk, a1], .cons ru b1, by simp [c1.1], fun i d' x' q1 q2 => ?_⟩
      cases i with
      | zero => simp at q1 q2; subst q1; subst q2; exact ⟨j, .inl ⟨hjd, hx⟩⟩
      | succ i => exact c1.2 i d' x' q1 q2
  obtain ⟨dr, xr, e1, v1, src⟩ := hex ks es.toList (let ⟨_, _, _, _, T⟩ := S; T.ent) (fun k hk => by
      obtain ⟨j, _, hj⟩ := (p.mem k).mp hk
      exact hk0 k (List.mem_of_getElem? hj)) p.ent
  subst e1
  have hnod : dr.Nodup := by obtain ⟨_, _, _, _, T⟩ := S; exact sk_nodup T.nod
  have hdr : ∀ d ∈ dr, d.hk f = true := fun d hd => by
    rcases src.mem hd with z | z
    · exact hf d z
    · cases z
  refine ⟨.ref s.heap.objs.size, _, I.laid (t' := tk) K' (Nat.le_refl _) (setHO_ok S v1), rfl, q _ dr xr (I.hok.fresh (Nat.le_refl _)) hnod (fun d => ⟨fun h => (src.mem h).elim id (fun z => by cases z), fun h => ?_⟩) src⟩
  refine (sk_mem hdr (hf d h)).mp ((p.mem d.sk).mpr ?_)
  obtain ⟨j, hj⟩ := List.mem_iff_getElem?.mp h
  exact ⟨j, by have := (List.getElem?_eq_some_iff.mp hj).1; simp; omega, by rw [List.getElem?_map, hj]; rfl⟩
theorem op_set2 {op : Operator} {f : Bool} {m : List D → List D → D → Prop} (mk : List SK → List SK → SK → Prop)
    (hm : ∀ (da db : List D) (d : D), (∀ d ∈ da, d.hk f = true) → (∀ d ∈ db, d.hk f = true) → d.hk f = true → (mk (da.map D.sk) (db.map D.sk) d.sk ↔ m da db d)) (hsub : ∀ da db d, m da db d → d ∈ da ∨ d ∈ db)
    (hw : ∀ (s : Shared) (a b : Addr) (ka kb : List SK) (ea eb : Array (Int × Value)) (Q : Value → Shared → Prop), a ≠ b → SetE X.prog X.w s.heap a ka ea → SetE X.prog X.w s.heap b kb eb → (∀ k ∈ ka, k.flat = f) → (∀ k ∈ kb, k.flat = f) → ka.length + kb.length ≤ 1000 →
      NewSet X.prog X.w s ea eb (mk ka kb) Q → wpAny (model X.prog X.w) X.A (binaryOp op (.ref a) (.ref b)) Q X.xe s) (hmk : ∀ ka kb k, mk ka kb k → k ∈ ka ∨ k ∈ kb) : OpR X (binaryOp op) (rSet2 X.prog X.w X.K f m) := by
  intro pins s σ H x y v u Q I rx ry h
  obtain ⟨a, b, da, db, xa, xb, rfl, rfl, hab, ha, hb, ra, rb, hfa, hfb, hl, q⟩ := h
  cases rx
  cases ry
  obtain ⟨ea, Sa, va⟩ := I.setE ha hfa ra
  obtain ⟨eb, Sb, vb⟩ := I.setE hb hfb rb
  have fk : ∀ (dz : List D), (∀ d ∈ dz, d.hk f = true) → ∀ k ∈ dz.map D.sk, k.flat = f := fun dz hz k hk => by obtain ⟨d, hd, rfl⟩ := List.mem_map.mp hk; exact sk_flat (hz d hd)
  refine hw s a b _ _ ea eb _ hab Sa Sb (fk da hfa) (fk db hfb) (by simpa using hl) fun h' d r kr er K' hr S mm en => ?_
  obtain ⟨_, _, _, _, Ta⟩ := Sa
  obtain ⟨_, _, _, _, Tb⟩ := Sb
  obtain ⟨o, ep, t, ho, T⟩ := id S
  have hkr : ∀ k ∈ kr, k.flat = f := fun k hk => by
    rcases hmk _ _ _ ((mm k).mp hk) with z | z
    · exact fk da hfa k z
    · exact fk db hfb k z
  obtain ⟨dr, xr, e1, v1, src⟩ := src_of (f := f) K'.T Ta.ent Tb.ent va vb hfa hfb T.ent hkr en
  subst e1
  have hdr : ∀ d ∈ dr, d.hk f = true := fun d hd => (src.mem hd).elim (hfa d) (hfb d)
  refine ⟨.ref r, _, (I.laid (t' := s.toks) K' hr (setHO_ok S v1)).drw d, rfl, q r dr xr (I.hok.fresh hr) (sk_nodup T.nod) (fun d => ⟨fun h => ?_, fun h => ?_⟩) src⟩
  · exact (hm da db d hfa hfb (hdr d h)).mp ((mm d.sk).mp (List.mem_map_of_mem h))
  · have hdk : d.hk f = true := (hsub da db d h).elim (hfa d) (hfb d)
    exact (sk_mem hdr hdk).mp ((mm d.sk).mpr ((hm da db d hfa hfb hdk).mpr h))
theorem op_andS {f : Bool} (hu : X.A.units + 64 < cLine) : OpR X (binaryOp .BitAnd) (rSet2 X.prog X.w X.K f mAnd) :=
  op_set2 (fun ka kb k => k ∈ ka ∧ k ∈ kb) (fun da db d h1 h2 h3 => by rw [sk_mem h1 h3, sk_mem h2 h3]; rfl) (fun da db d h => .inl h.1) (fun s a b ka kb ea eb Q hab Sa Sb ha hb _ q => and_w (f := f) (by omega) hab Sa Sb ha hb q) fun ka kb k h => .inl h.1
theorem call_lenS {f : Bool} : CallR X (.builtin "len") (rLenS X.prog X.w X.K f) := by
  intro pins s σ H vs us Q I r h
  obtain ⟨a, xs, ds, rfl, ha, rs, hf, q⟩ := h
  obtain ⟨u, rfl, ru⟩ := vals1 r
  cases ru
  obtain ⟨es, ⟨o, ep, t, ho, S⟩, v⟩ := I.setE ha hf rs
  have hl : es.size = ds.length := by have := S.ent.length; simp at this; omega
  have hs := S.small
  simp at hs
  refine call_len_set ho S.ex S.data S.fits (by omega) ⟨.int ds.length, H, I.tok _, ⟨_, by rw [hl]⟩, q⟩
end
end L2

set_option Elab.async false
set_option linter.all false
set_option maxRecDepth 100000
set_option maxHeartbeats 4000000
/-! sorted(a set) -/
namespace L2
open PySem PySem.W PyProof.Rows L2T
section
variable {prog : Program} {w : World} {A : Around} {E : Value → Shared → Prop} {s : Shared}
end
end L2

set_option Elab.async false
set_option linter.all false
set_option maxRecDepth 100000
set_option maxHeartbeats 4000000
/-! sets as rules of the layer: sorted; the judgement for sets -/
namespace L2
open PySem PySem.W PyProof.Rows L2T
section
variable (P : Program) (w : World) (K : PySem.W.Frag)
end
theorem Alike.perm {ds es : List D} (h : Alike ds) (p : es.Perm ds) : Alike es := by
  rcases h with h | h | ⟨t, ts, h⟩
  · exact .inl fun d hd => h d (p.mem_iff.mp hd)
  · exact .inr (.inl fun d hd => h d (p.mem_iff.mp hd))
  · exact .inr (.inr ⟨t, ts, fun d hd => h d (p.mem_iff.mp hd)⟩)
theorem Alike.sub {ds es : List D} (h : Alike ds) (p : ∀ d ∈ es, d ∈ ds) : Alike es := by
  rcases h with h | h | ⟨t, ts, h⟩
  · exact .inl fun d hd => h d (p d hd)
  · exact .inr (.inl fun d hd => h d (p d hd))
  · exact .inr (.inr ⟨t, ts, fun d hd => h d (p d hd)⟩)
theorem Src.refl {ds : List D} {xs : List V} (h : ds.length = xs.length) : Src ds xs [] [] ds xs := ⟨h, fun i d x h1 h2 => ⟨i, .inl ⟨h1, h2⟩⟩⟩
section
variable {X : Cx}
end
end L2

set_option Elab.async false
set_option linter.all false
set_option maxRecDepth 100000
set_option maxHeartbeats 4000000
/-! the judgement for sets -/
namespace L2
open PySem PySem.W PyProof.Rows L2T
/-- a new set of just these -/
def EvS (P : Program) (w : World) (K : PySem.W.Frag) (G H₀ L : Hp) (ss : List Sl) (t : TE) (ds : List D) : Prop := ∀ F H σ Q, Sat K G H₀ L F H σ ss →
  (∀ p xs F' H' ds', Ext F H F' H' → H p = none → F' p = none → H' p = some (setHO P w p (ds'.map D.sk) xs) → Reps K F' ds' xs → ds'.Nodup → (∀ d, d ∈ ds' ↔ d ∈ ds) → Q (.ref p) H') → t σ H Q
theorem nodup_len {α : Type} [DecidableEq α] : ∀ {a b : List α}, a.Nodup → (∀ x ∈ a, x ∈ b) → a.length ≤ b.length
  | [], _, _, _ => Nat.zero_le _
  | x :: a, b, hn, h => by
    rw [List.nodup_cons] at hn
    have h1 := nodup_len (b := b.erase x) hn.2 fun y hy => (List.mem_erase_of_ne (show y ≠ x from fun e => hn.1 (by rw [← e]; exact hy))).mpr (h y (List.mem_cons_of_mem _ hy))
    have hx := h x List.mem_cons_self
    have := List.length_erase_of_mem hx
    have := List.length_pos_of_mem hx
    simp; omega
section
variable {P : Program} {w : World} {K : PySem.W.Frag} {G H₀ L : Hp} {ss : List Sl} {t ta tb : TE} {f : Bool} {ds da db dr : List D}
theorem evs_set (a : EvL K G H₀ L ss t ds) (hf : ∀ d ∈ ds, d.hk f = true) (hl : ds.length ≤ 1000) : EvS P w K G H₀ L ss (tCB (rSetOf P w K f) (tCons t tNil)) ds := fun F H σ Q S q =>
  a F H σ _ S fun p vs F' H' e sq r => ⟨p, vs, ds, rfl, sq, r.mono e.fh, hf, hl, fun l dr xr hl' hn hm src =>
    q l xr F' _ dr (e.newO hl') (e.hh.free hl') (e.fh.free hl') upd_same (src.reps r Reps.nil) hn hm⟩
theorem evs_op {m : List D → List D → D → Prop} (hcong : ∀ a a' b b' d, (∀ d, d ∈ a ↔ d ∈ a') → (∀ d, d ∈ b ↔ d ∈ b') → (m a b d ↔ m a' b' d)) (a : EvS P w K G H₀ L ss ta da) (b : EvS P w K G H₀ L ss tb db) (hfa : ∀ d ∈ da, d.hk f = true) (hfb : ∀ d ∈ db, d.hk f = true)
    (hl : da.length + db.length ≤ 1000) (hm : ∀ d, d ∈ dr ↔ m da db d) : EvS P w K G H₀ L ss (tOp (rSet2 P w K f m) ta tb) dr := fun F H σ Q S q =>
  a F H σ _ S fun p xs F1 H1 d1 e1 hp fp hp1 r1 n1 m1 => b F1 H1 σ _ (S.ext2 e1) fun p2 xs2 F2 H2 d2 e2 hp2 fp2 hpp2 r2 n2 m2 => by
    have hne : p ≠ p2 := fun z => by rw [← z, hp1] at hp2; cases hp2
    have l1 := nodup_len n1 fun x h => (m1 x).mp h
    have l2 := nodup_len n2 fun x h => (m2 x).mp h
    refine ⟨p, p2, d1, d2, xs, xs2, rfl, rfl, hne, e2.hh p _ hp1, hpp2, (r1.mono e2.gf).mono e2.fh, r2.mono e2.fh, fun d h => hfa d ((m1 d).mp h), fun d h => hfb d ((m2 d).mp h), by omega, fun r dr' xr hr hn hmm src => ?_⟩
    have e12 := e1.trans e2
    exact q r xr F2 _ dr' (e12.newO hr) (e12.hh.free hr) (e12.fh.free hr) upd_same (src.reps (r1.mono e2.gf) r2) hn fun d => by rw [hmm, hm]; exact hcong _ _ _ _ _ m1 m2
theorem evs_and (a : EvS P w K G H₀ L ss ta da) (b : EvS P w K G H₀ L ss tb db) (hfa : ∀ d ∈ da, d.hk f = true) (hfb : ∀ d ∈ db, d.hk f = true) (hl : da.length + db.length ≤ 1000) (hm : ∀ d, d ∈ dr ↔ d ∈ da ∧ d ∈ db) : EvS P w K G H₀ L ss (tOp (rSet2 P w K f mAnd) ta tb) dr :=
  evs_op (m := mAnd) (fun a a' b b' d h1 h2 => by unfold mAnd; rw [h1, h2]) a b hfa hfb hl hm
theorem ev_lenSet (dd : List D) (a : EvS P w K G H₀ L ss t ds) (hf : ∀ d ∈ ds, d.hk f = true) (hn : dd.Nodup) (hm : ∀ d, d ∈ dd ↔ d ∈ ds) : Ev K G H₀ L ss (tCB (rLenS P w K f) (tCons t tNil)) (.int dd.length) := fun F H σ Q S q =>
  a F H σ _ S fun p xs F' H' d1 e hp fp hp1 r n1 m1 => ⟨p, xs, d1, rfl, hp1, r.mono e.fh, fun d h => hf d ((m1 d).mp h), by
    have hp : dd.Perm d1 := (List.perm_ext_iff_of_nodup hn n1).mpr fun d => by rw [hm, m1]
    rw [← hp.length_eq]
    exact q _ F' H' e Rep.int⟩
end
/-- without doubles -/
def ded : List D → List D
  | [] => []
  | d :: ds => if d ∈ ds then ded ds else d :: ded ds
theorem ded_mem {d : D} : ∀ {ds : List D}, d ∈ ded ds ↔ d ∈ ds
  | [] => Iff.rfl
  | e :: ds => by
    unfold ded
    split
    · rw [ded_mem, List.mem_cons]
      exact ⟨.inr, fun h => h.elim (fun z => z ▸ by assumption) id⟩
    · rw [List.mem_cons, List.mem_cons, ded_mem]
theorem ded_nodup : ∀ ds : List D, (ded ds).Nodup
  | [] => List.nodup_nil
  | e :: ds => by
    unfold ded
    split
    · exact ded_nodup ds
    · rw [List.nodup_cons, ded_mem]; exact ⟨by assumption, ded_nodup ds⟩
end L2

set_option Elab.async false
set_option linter.all false
set_option maxRecDepth 100000
set_option maxHeartbeats 4000000
/-! lists joined; names of the file's top -/
namespace L2
open PySem PySem.W PyProof.Rows L2T
section
variable {K : PySem.W.Frag} {G H₀ L : Hp} {ss : List Sl} {ta tb : TE} {da db : List D}
end
end L2

set_option Elab.async false
set_option linter.all false
set_option maxRecDepth 100000
set_option maxHeartbeats 4000000
/-! a list of ours handed to a def whose answer holds no list -/
namespace L2
open PySem PySem.W PyProof.Rows L2T
mutual
/-- no list in it -/
def D.nl : D → Bool
  | .lst _ => false
  | .tup a => D.nls a
  | _ => true
def D.nls : List D → Bool
  | [] => true
  | a :: x => a.nl && D.nls x
end
section
variable {K : PySem.W.Frag}
end
section
variable {K : PySem.W.Frag} {G H₀ L : Hp} {ss : List Sl} {i : Nat} {ta : TE} {t : TA} {d : D} {ds : List D} {pre : List D → Prop} {E : XK}
end
end L2

set_option Elab.async false
set_option linter.all false
set_option maxRecDepth 100000
set_option maxHeartbeats 4000000
/-! lists of lists of ours -/
namespace L2
open PySem PySem.W PyProof.Rows L2T
section
variable {K : PySem.W.Frag} {G H₀ L : Hp} {ss : List Sl} {i : Nat} {ta tk t1 : TE} {t : TA} {d : D} {ds : List D} {dss : List (List D)}
end
end L2

set_option Elab.async false
set_option linter.all false
set_option maxRecDepth 100000
set_option maxHeartbeats 4000000
/-! a letter made great -/
namespace L2
open PySem PySem.W PyProof.Rows L2T
section
variable {K : PySem.W.Frag} {G H₀ L : Hp} {ss : List Sl} {ta : TE}
end
end L2

set_option Elab.async false
set_option linter.all false
set_option maxRecDepth 100000
set_option maxHeartbeats 4000000
/-! a promise that tells of its answer only what it is like -/
namespace L2
open PySem PySem.W PySem.Spec PyProof.Rows
section
variable {K : PySem.W.Frag} {H : Hp} {vs : List V} {Q : VK} {X : XK} {N : List Str} {t : TS} {pre : List D → Prop} {R : List D → List D → Prop}
end
section
variable {K : PySem.W.Frag} {G H₀ L : Hp} {ss : List Sl} {t : TA} {ds : List D} {pre : List D → Prop} {R : List D → List D → Prop} {E : XK} {D0 : Ends}
end
end L2

set_option Elab.async false
set_option linter.all false
set_option maxRecDepth 100000
set_option maxHeartbeats 4000000
/-! a list taken apart into names -/
namespace L2
open PySem PySem.W PySem.Spec PyProof.Rows
section
variable {prog : Program} {w : World} {A : Around} {E : Value → Shared → Prop} {s : Shared}
end
section
variable {K : PySem.W.Frag} {G H₀ L : Hp} {ss ss' : List Sl} {t : TA} {ds r0 : List D} {pre : List D → Prop} {R : List D → List D → Prop} {E : XK} {D0 : Ends}
end
end L2

set_option Elab.async false
set_option linter.all false
set_option maxRecDepth 100000
set_option maxHeartbeats 4000000
/-! comprehensions of new lists, over range; list(reversed(x)); max of two whole numbers -/
namespace L2
open PySem PySem.W PyProof.Rows L2T
section
variable {K : PySem.W.Frag} {G H₀ L : Hp} {ss : List Sl} {ta tb t : TE}
theorem ev_gt {i j : Int} (a : EvB K G H₀ L ss ta (.int i)) (b : EvB K G H₀ L ss tb (.int j)) : Ev K G H₀ L ss (tOp (rI0 fun i j => .bl (decide (j < i))) ta tb) (.bl (decide (j < i))) := ev_cmpI (g := fun i j => decide (j < i)) a b
end
end L2

set_option Elab.async false
set_option linter.all false
set_option maxRecDepth 100000
set_option maxHeartbeats 4000000
/-! promises of frozen answers that tell only what they are like; whole numbers; range from .. to .. -/
namespace L2
open PySem PySem.W PySem.Spec PyProof.Rows
section
variable {K : PySem.W.Frag} {H : Hp} {vs : List V} {Q : VK} {X : XK} {N : List Str} {t : TS} {pre : List D → Prop} {R : List D → D → Prop}
end
section
variable {K : PySem.W.Frag} {G H₀ L : Hp} {ss : List Sl} {t : TA} {ds : List D} {pre : List D → Prop} {R : List D → D → Prop} {E : XK} {D0 : Ends} {ta tb te : TE} {i j : Int}
end
end L2

set_option Elab.async false
set_option linter.all false
set_option maxRecDepth 100000
set_option maxHeartbeats 4000000
/-! texts put plain: the mathematics -/
namespace My
open PySem L2 PyProof.Rows

def stepP (acc : List Nat) (c : Nat) : List Nat := if c ≠ 32 ∨ (acc ≠ [] ∧ acc.getLast? ≠ some 32) then acc ++ [lo1 c] else acc
def trim (r : List Nat) : List Nat := if r ≠ [] ∧ r.getLast? = some 32 then r.dropLast else r
/-- a text put plain -/
def plain (l : List Nat) : List Nat := trim (l.foldl stepP [])

def joinL : List (List Nat) → List Nat
  | [] => []
  | [p] => p
  | p :: q :: r => p ++ 32 :: joinL (q :: r)
theorem joinL_cons {p : List Nat} {r : List (List Nat)} (h : r ≠ []) : joinL (p :: r) = p ++ 32 :: joinL r := by
  cases r with
  | nil => exact absurd rfl h
  | cons q r => rfl
theorem lo1_32 (c : Nat) : lo1 c = 32 ↔ c = 32 := by
  unfold lo1; split <;> omega
theorem lo1_lo1 (c : Nat) : lo1 (lo1 c) = lo1 c := by
  unfold lo1; split <;> (try split) <;> omega
theorem lo1_lt (c : Nat) (h : c < 128) : lo1 c < 128 := by
  unfold lo1; split <;> omega
def stepQ (acc : List Nat) (c : Nat) : List Nat := if c ≠ 32 ∨ (acc ≠ [] ∧ acc.getLast? ≠ some 32) then acc ++ [c] else acc
theorem stepP_Q (acc : List Nat) (c : Nat) : stepP acc c = stepQ acc (lo1 c) := by
  unfold stepP stepQ
  by_cases h : c = 32
  · subst h; rfl
  · have : lo1 c ≠ 32 := fun e => h ((lo1_32 c).mp e)
    simp [h, this]
theorem foldP_Q (l acc : List Nat) : l.foldl stepP acc = (l.map lo1).foldl stepQ acc := by
  induction l generalizing acc with
  | nil => rfl
  | cons c r ih => rw [List.foldl_cons, List.map_cons, List.foldl_cons, stepP_Q, ih]
theorem fold_word (w acc : List Nat) (h : 32 ∉ w) : w.foldl stepQ acc = acc ++ w := by
  induction w generalizing acc with
  | nil => simp
  | cons c r ih =>
    rw [List.mem_cons, not_or] at h
    rw [List.foldl_cons, show stepQ acc c = acc ++ [c] by unfold stepQ; rw [if_pos (.inl (Ne.symm h.1))], ih _ h.2, List.append_assoc]; rfl
def clean (acc : List Nat) : Prop := acc = [] ∨ acc.getLast? = some 32
theorem step_blank_clean {acc : List Nat} (h : clean acc) : stepQ acc 32 = acc := by
  unfold stepQ
  rw [if_neg]
  rcases h with rfl | h
  · simp
  · simp [h]
theorem fold_join : ∀ (ps : List (List Nat)) (acc : List Nat), (∀ p ∈ ps, 32 ∉ p) → clean acc →
    ∃ t, (t = [] ∨ (t = [32] ∧ ps.filter (fun p => !p.isEmpty) ≠ [])) ∧ (joinL ps).foldl stepQ acc = acc ++ joinL (ps.filter fun p => !p.isEmpty) ++ t
  | [], acc, _, _ => ⟨[], .inl rfl, by simp [joinL]⟩
  | [p], acc, hf, _ => by
    refine ⟨[], .inl rfl, ?_⟩
    rw [show joinL [p] = p from rfl, fold_word p acc (hf p List.mem_cons_self)]
    cases p with
    | nil => simp [joinL]
    | cons c r => simp [joinL]
  | p :: q :: r, acc, hf, hc => by
    have hp := hf p List.mem_cons_self
    have hr : ∀ z ∈ q :: r, 32 ∉ z := fun z hz => hf z (List.mem_cons_of_mem _ hz)
    rw [show joinL (p :: q :: r) = p ++ 32 :: joinL (q :: r) from rfl, List.foldl_append, fold_word p acc hp, List.foldl_cons]
    cases p with
    | nil =>
      rw [List.append_nil, step_blank_clean hc]
      obtain ⟨t, ht, e⟩ := fold_join (q :: r) acc hr hc
      refine ⟨t, ?_, ?_⟩
      · simpa using ht
      · rw [e]; simp
    | cons c s =>
      have hs : stepQ (acc ++ c :: s) 32 = acc ++ c :: s ++ [32] := by
        unfold stepQ
        rw [if_pos]
        refine .inr ⟨by simp, ?_⟩
        intro e
        rw [List.getLast?_append, List.getLast?_cons] at e
        simp at e
        have : (s.getLast?.getD c) ∈ c :: s := by
          cases hs' : s.getLast? with
          | none => simp
          | some z => simp [List.mem_of_getLast? hs']
        rw [e] at this
        exact hp this
      rw [hs]
      obtain ⟨t, ht, e⟩ := fold_join (q :: r) (acc ++ c :: s ++ [32]) hr (.inr (List.getLast?_concat))
      rw [e]
      have ef : (((c :: s) :: q :: r).filter fun p => !p.isEmpty) = (c :: s) :: ((q :: r).filter fun p => !p.isEmpty) := by simp
      rw [ef]
      by_cases hw : ((q :: r).filter fun p => !p.isEmpty) = []
      · rw [hw]
        rcases ht with rfl | ⟨rfl, hn⟩
        · exact ⟨[32], .inr ⟨rfl, by simp⟩, by simp [joinL]⟩
        · exact absurd hw hn
      · rw [joinL_cons hw]
        refine ⟨t, ?_, by simp [List.append_assoc]⟩
        rcases ht with rfl | ⟨rfl, hn⟩
        · exact .inl rfl
        · exact .inr ⟨rfl, by simp⟩
theorem joinL_last : ∀ (ps : List (List Nat)), (∀ p ∈ ps, 32 ∉ p ∧ p ≠ []) → (joinL ps).getLast? ≠ some 32
  | [], _ => by simp [joinL]
  | [p], h => by
    intro e
    exact (h p List.mem_cons_self).1 (List.mem_of_getLast? e)
  | p :: q :: r, h => by
    have ih := joinL_last (q :: r) fun z hz => h z (List.mem_cons_of_mem _ hz)
    rw [show joinL (p :: q :: r) = p ++ 32 :: joinL (q :: r) from rfl, List.getLast?_append, List.getLast?_cons]
    cases e : (joinL (q :: r)).getLast? with
    | some z =>
      rw [e] at ih
      simpa using ih
    | none =>
      have : joinL (q :: r) = [] := List.getLast?_eq_none_iff.mp e
      have hq := (h q (List.mem_cons_of_mem _ List.mem_cons_self)).2
      cases r with
      | nil => exact absurd this hq
      | cons a b => simp [joinL] at this
theorem trim_join {ps : List (List Nat)} (h : ∀ p ∈ ps, 32 ∉ p) {t : List Nat} (ht : t = [] ∨ (t = [32] ∧ ps.filter (fun p => !p.isEmpty) ≠ [])) :
    trim (joinL (ps.filter fun p => !p.isEmpty) ++ t) = joinL (ps.filter fun p => !p.isEmpty) := by
  have hW : ∀ p ∈ ps.filter (fun p => !p.isEmpty), 32 ∉ p ∧ p ≠ [] := fun p hp => by
    have := List.mem_filter.mp hp
    exact ⟨h p this.1, by simpa using this.2⟩
  rcases ht with rfl | ⟨rfl, hn⟩
  · rw [List.append_nil]
    unfold trim
    rw [if_neg]
    intro e
    exact joinL_last _ hW e.2
  · unfold trim
    rw [if_pos ⟨by simp, by simp⟩]
    simp
/-- the words of the program's reading -/
theorem plain_of_parts {l : List Nat} {ps : List (List Nat)} (h : ∀ p ∈ ps, 32 ∉ p) (hj : joinL ps = l.map lo1) : joinL (ps.filter fun p => !p.isEmpty) = plain l := by
  obtain ⟨t, ht, e⟩ := fold_join ps [] h (.inl rfl)
  unfold plain
  rw [foldP_Q, ← hj, e, List.nil_append, trim_join h ht]
theorem map_joinL (f : Nat → Nat) (h32 : f 32 = 32) : ∀ ps : List (List Nat), (joinL ps).map f = joinL (ps.map (·.map f))
  | [] => rfl
  | [p] => rfl
  | p :: q :: r => by
    have ih := map_joinL f h32 (q :: r)
    show (p ++ 32 :: joinL (q :: r)).map f = p.map f ++ 32 :: joinL ((q :: r).map (·.map f))
    rw [List.map_append, List.map_cons, ih, h32]
theorem mem_joinL {c : Nat} : ∀ {ps : List (List Nat)}, c ∈ joinL ps → c = 32 ∨ ∃ p ∈ ps, c ∈ p
  | [], h => by simp [joinL] at h
  | [p], h => .inr ⟨p, List.mem_cons_self, h⟩
  | p :: q :: r, h => by
    have h' : c ∈ p ++ 32 :: joinL (q :: r) := h
    rw [List.mem_append, List.mem_cons] at h'
    rcases h' with h' | h' | h'
    · exact .inr ⟨p, List.mem_cons_self, h'⟩
    · exact .inl h'
    · rcases mem_joinL h' with e | ⟨z, hz, e⟩
      · exact .inl e
      · exact .inr ⟨z, List.mem_cons_of_mem _ hz, e⟩
theorem mem_sub_joinL {c : Nat} {p : List Nat} : ∀ {ps : List (List Nat)}, p ∈ ps → c ∈ p → c ∈ joinL ps
  | [q], h, hc => by rw [List.mem_singleton] at h; subst h; exact hc
  | a :: q :: r, h, hc => by
    show c ∈ a ++ 32 :: joinL (q :: r)
    rw [List.mem_append, List.mem_cons]
    rcases List.mem_cons.mp h with rfl | h
    · exact .inl hc
    · exact .inr (.inr (mem_sub_joinL h hc))
/-- any text is the join of 32-free parts -/
theorem parts_exist : ∀ l : List Nat, ∃ ps : List (List Nat), ps ≠ [] ∧ (∀ p ∈ ps, 32 ∉ p) ∧ joinL ps = l
  | [] => ⟨[[]], by simp, by simp, rfl⟩
  | c :: r => by
    obtain ⟨ps, hn, hf, e⟩ := parts_exist r
    cases ps with
    | nil => exact absurd rfl hn
    | cons p qs =>
      by_cases h : c = 32
      · subst h
        refine ⟨[] :: p :: qs, by simp, fun z hz => ?_, by rw [joinL_cons (by simp), e]; rfl⟩
        rcases List.mem_cons.mp hz with rfl | hz
        · simp
        · exact hf z hz
      · refine ⟨(c :: p) :: qs, by simp, fun z hz => ?_, ?_⟩
        · rcases List.mem_cons.mp hz with rfl | hz
          · intro hm
            rcases List.mem_cons.mp hm with e' | e'
            · exact h e'.symm
            · exact hf p List.mem_cons_self e'
          · exact hf z (List.mem_cons_of_mem _ hz)
        · cases qs with
          | nil => rw [← e]; rfl
          | cons q qs => rw [← e]; rfl
/-- put plain once more it stays -/
theorem plain_plain (l : List Nat) : plain (plain l) = plain l := by
  obtain ⟨ps, hn, hf, e⟩ := parts_exist (l.map lo1)
  have h1 := plain_of_parts (l := l) hf e
  have hW : ∀ p ∈ ps.filter (fun p => !p.isEmpty), 32 ∉ p := fun p hp => hf p (List.mem_filter.mp hp).1
  have hlow : (joinL (ps.filter fun p => !p.isEmpty)).map lo1 = joinL (ps.filter fun p => !p.isEmpty) := by
    refine (List.map_congr_left fun c hc => ?_).trans (List.map_id _)
    rcases mem_joinL hc with rfl | ⟨p, hp, hcp⟩
    · rfl
    · have : c ∈ l.map lo1 := by
        rw [← e]; exact mem_sub_joinL (List.mem_filter.mp hp).1 hcp
      obtain ⟨d, _, rfl⟩ := List.mem_map.mp this
      exact lo1_lo1 d
  have h2 := plain_of_parts (l := plain l) hW (by rw [← h1]; exact hlow.symm)
  rw [← h2, List.filter_filter]
  simp only [Bool.and_self]
  exact h1

/-! ### the library's words -/
theorem lower_T {l : List Nat} (h : ∀ c ∈ l, c < 128) : Txt.lower (T l) = T (l.map lo1) := by
  rw [lower_ascii (by simpa [T] using h)]
  simp [T]
theorem join_T : ∀ ps : List (List Nat), Str.join (T [32]) (ps.map T) = T (joinL ps)
  | [] => rfl
  | [p] => rfl
  | p :: q :: r => by
    have ih := join_T (q :: r)
    show T p ++ T [32] ++ Str.join (T [32]) ((q :: r).map T) = T (p ++ 32 :: joinL (q :: r))
    rw [ih, T_app, T_app, List.append_assoc]; rfl
theorem strs_T (l : List Str) : (l.map (·.cps.toList)).map T = l := by
  rw [List.map_map]
  exact (List.map_congr_left fun x _ => T_of x).trans (List.map_id _)
theorem split_T (l : List Nat) : ∃ ps : List (List Nat), Txt.split (T l) (T [32]) = ps.map T ∧ (∀ p ∈ ps, 32 ∉ p) ∧ joinL ps = l := by
  refine ⟨(Txt.split (T l) (T [32])).map (·.cps.toList), (strs_T _).symm, fun p hp => ?_, ?_⟩
  · obtain ⟨x, hx, rfl⟩ := List.mem_map.mp hp
    exact StrLaws.split_free (T l) 32 x hx
  · have := StrLaws.join_split (T l) (T [32])
    rw [← strs_T (Txt.split (T l) (T [32])), join_T] at this
    exact T_inj.mp this
theorem joinL_weight : ∀ ps : List (List Nat), (ps.map (·.length)).sum + ps.length ≤ (joinL ps).length + 1
  | [] => by simp
  | [p] => by simp [joinL]
  | p :: q :: r => by
    have ih := joinL_weight (q :: r)
    show _ ≤ (p ++ 32 :: joinL (q :: r)).length + 1
    have e1 : (p ++ 32 :: joinL (q :: r)).length = p.length + ((joinL (q :: r)).length + 1) := by simp
    have e2 : ((p :: q :: r).map (·.length)).sum = p.length + ((q :: r).map (·.length)).sum := by simp
    have e3 : (p :: q :: r).length = (q :: r).length + 1 := rfl
    omega
theorem filter_weight (p : List Nat → Bool) : ∀ ps : List (List Nat), ((ps.filter p).map (·.length)).sum + (ps.filter p).length ≤ (ps.map (·.length)).sum + ps.length
  | [] => by simp
  | a :: r => by
    have ih := filter_weight p r
    rw [List.filter_cons]
    split
    · simp only [List.map_cons, List.sum_cons, List.length_cons]; omega
    · simp only [List.map_cons, List.sum_cons, List.length_cons]; omega
theorem plain_lt {l : List Nat} (h : ∀ c ∈ l, c < 128) : ∀ c ∈ plain l, c < 128 := by
  obtain ⟨ps, hn, hf, e⟩ := parts_exist (l.map lo1)
  rw [← plain_of_parts (l := l) hf e]
  intro c hc
  rcases mem_joinL hc with rfl | ⟨p, hp, hcp⟩
  · decide
  · have : c ∈ l.map lo1 := by
      rw [← e]; exact mem_sub_joinL (List.mem_filter.mp hp).1 hcp
    obtain ⟨d, hd, rfl⟩ := List.mem_map.mp this
    exact lo1_lt d (h d hd)
theorem plain_len (l : List Nat) : (plain l).length ≤ l.length := by
  have hP : ∀ (l acc : List Nat), (l.foldl stepP acc).length ≤ acc.length + l.length := by
    intro l
    induction l with
    | nil => intro acc; simp
    | cons c r ih =>
      intro acc
      rw [List.foldl_cons]
      have := ih (stepP acc c)
      have h2 : (stepP acc c).length ≤ acc.length + 1 := by unfold stepP; split <;> simp
      simp only [List.length_cons]; omega
  have := hP l []
  have h2 : (trim (l.foldl stepP [])).length ≤ (l.foldl stepP []).length := by unfold trim; split <;> simp
  unfold plain
  simp at this
  omega
/-! ### signs of the alphabet -/
def up : List Nat := (List.range 26).map (65 + ·)
def dn : List Nat := (List.range 26).map (97 + ·)
theorem up_str : ("ABCDEFGHIJKLMNOPQRSTUVWXYZ" : Str) = T up := by decide +kernel
theorem dn_str : ("abcdefghijklmnopqrstuvwxyz" : Str) = T dn := by decide +kernel
theorem find_up : ∀ c, c < 128 → Txt.find (T up) (T [c]) = if 65 ≤ c ∧ c ≤ 90 then (c : Int) - 65 else -1 := by decide +kernel
theorem find_dn : ∀ c, c < 128 → Txt.find (T dn) (T [c]) = if 97 ≤ c ∧ c ≤ 122 then (c : Int) - 97 else -1 := by decide +kernel
end My
namespace My
open PySem L2 PyProof.Rows
/-- a text of at most n signs, each below 128 -/
structure Asc (n : Nat) (l : List Nat) : Prop where
  lt : ∀ c ∈ l, c < 128
  len : l.length ≤ n
theorem Asc.nil (n : Nat) : Asc n [] := ⟨by simp, Nat.zero_le _⟩
theorem Asc.snoc {n : Nat} {l : List Nat} {c : Nat} (h : Asc n l) (hc : c < 128) : Asc (n + 1) (l ++ [c]) :=
  ⟨fun d hd => by
    rcases List.mem_append.mp hd with hd | hd
    · exact h.lt d hd
    · rw [List.mem_singleton.mp hd]; exact hc, by have := h.len; simp; omega⟩
theorem Asc.mono {n m : Nat} {l : List Nat} (h : Asc n l) (hm : n ≤ m) : Asc m l := ⟨h.lt, Nat.le_trans h.len hm⟩
theorem Asc.plain {n : Nat} {l : List Nat} (h : Asc n l) : Asc n (plain l) := ⟨plain_lt h.lt, Nat.le_trans (plain_len l) h.len⟩
/-- an int of a cut of ints -/
theorem int_of_cut {ns : List Int} {lo hi : Option Int} {i : Nat} {y : V} (h : (cutV (ns.map V.int) lo hi)[i]? = some y) : ∃ z, y = V.int z := by
  have hm := List.mem_of_getElem? h
  unfold cutV at hm
  have := List.mem_of_mem_drop (List.mem_of_mem_take hm)
  obtain ⟨z, _, rfl⟩ := List.mem_map.mp this
  exact ⟨z, rfl⟩
theorem cut_len {xs : List V} {hi : Nat} : (cutV xs none (some (hi : Int))).length ≤ hi := by
  unfold cutV
  rw [List.length_take, HT.sIx_nat]
  have : HT.sIx xs.length 0 none = 0 := rfl
  rw [this]; omega
end My
namespace My
open PySem L2 PyProof.Rows
def sV (c : Nat) : V := .str (T [c])
theorem join_signs : ∀ cs : List Nat, Str.join (T []) (cs.map fun c => T [c]) = T cs
  | [] => rfl
  | [c] => rfl
  | c :: d :: r => by
    have ih := join_signs (d :: r)
    show T [c] ++ T [] ++ Str.join (T []) ((d :: r).map fun c => T [c]) = T (c :: d :: r)
    rw [ih, T_app, T_app]; rfl
theorem sum_signs (cs : List Nat) : ((cs.map fun c => T [c]).map (·.length)).sum = cs.length := by
  induction cs with
  | nil => rfl
  | cons c r ih => simp only [List.map_cons, List.sum_cons, ih, List.length_cons, T_len]; simp; omega
end My

set_option Elab.async false
set_option linter.all false
set_option maxRecDepth 100000
set_option maxHeartbeats 4000000
/-! near texts: the mathematics -/
namespace My
open PySem L2 PyProof.Rows
/-- how many signs both begin with -/
def cpl : List Nat → List Nat → Nat
  | a :: x, b :: y => if a = b then cpl x y + 1 else 0
  | _, _ => 0
theorem cpl_symm : ∀ p q, cpl p q = cpl q p
  | [], [] => rfl
  | [], _ :: _ => rfl
  | _ :: _, [] => rfl
  | a :: x, b :: y => by
    unfold cpl
    by_cases h : a = b
    · subst h; rw [if_pos rfl, if_pos rfl, cpl_symm x y]
    · rw [if_neg h, if_neg (fun e => h e.symm)]
theorem cpl_le : ∀ p q, cpl p q ≤ p.length ∧ cpl p q ≤ q.length
  | [], [] => by simp [cpl]
  | [], _ :: _ => by simp [cpl]
  | _ :: _, [] => by simp [cpl]
  | a :: x, b :: y => by
    have := cpl_le x y
    unfold cpl
    split <;> simp <;> omega
theorem cpl_of : ∀ (a : Nat) (p q : List Nat), p.take a = q.take a → a ≤ p.length → a ≤ q.length → (¬ (a < p.length ∧ a < q.length) ∨ p[a]? ≠ q[a]?) → cpl p q = a
  | 0, p, q, _, _, _, h => by
    cases p with
    | nil => cases q <;> rfl
    | cons x p =>
      cases q with
      | nil => rfl
      | cons y q =>
        rcases h with h | h
        · simp at h
        · unfold cpl; rw [if_neg]; intro e; apply h; simp [e]
  | a + 1, p, q, e, h1, h2, h => by
    cases p with
    | nil => simp at h1
    | cons x p =>
      cases q with
      | nil => simp at h2
      | cons y q =>
        simp only [List.take_succ_cons, List.cons.injEq] at e
        obtain ⟨rfl, e⟩ := e
        unfold cpl
        rw [if_pos rfl, cpl_of a p q e (by simpa using h1) (by simpa using h2) (by simpa using h)]
def nearD (F S : List Nat) : Bool := decide (F.drop 1 = S.drop 1) || decide (F.drop 1 = S) || decide (F = S.drop 1)
def near (p q : List Nat) : Bool := nearD (p.drop (cpl p q)) (q.drop (cpl p q))
theorem nearD_symm (F S : List Nat) : nearD F S = nearD S F := by
  rw [Bool.eq_iff_iff]
  simp only [nearD, Bool.or_eq_true, decide_eq_true_eq]
  constructor
  · rintro ((h | h) | h)
    · exact .inl (.inl h.symm)
    · exact .inr h.symm
    · exact .inl (.inr h.symm)
  · rintro ((h | h) | h)
    · exact .inl (.inl h.symm)
    · exact .inr h.symm
    · exact .inl (.inr h.symm)
theorem near_symm (p q : List Nat) : near p q = near q p := by
  unfold near; rw [cpl_symm q p, nearD_symm]
theorem near_self (p : List Nat) : near p p = true := by simp [near, nearD]
/-- the law's own words -/
theorem near_law (F S : List Nat) : (decide (F = S) || (decide (F.drop 1 = S) || (decide (F = S.drop 1) || decide (F.drop 1 = S.drop 1)))) = nearD F S := by
  rw [Bool.eq_iff_iff]
  simp only [nearD, Bool.or_eq_true, decide_eq_true_eq]
  constructor
  · rintro (h | h | h | h)
    · subst h; exact .inl (.inl rfl)
    · exact .inl (.inr h)
    · exact .inr h
    · exact .inl (.inl h)
  · rintro ((h | h) | h)
    · exact .inr (.inr (.inr h))
    · exact .inr (.inl h)
    · exact .inr (.inr (.inl h))
/-! ### slices -/
theorem sIx_pos (n d : Nat) {a : Int} (h : 0 ≤ a) : HT.sIx n d (some a) = min a.toNat n := by
  show (if a < 0 then (a + (n : Int)).toNat else min a.toNat n) = _
  rw [if_neg (by omega)]
theorem cutL_take (m : List Nat) {a : Int} (h : 0 ≤ a) : cutL m none (some a) = m.take a.toNat := by
  unfold cutL
  have e2 : HT.sIx m.length 0 none = 0 := rfl
  rw [sIx_pos _ _ h, e2, List.drop_zero, Nat.sub_zero, ← List.take_eq_take_min]
theorem cutL_drop (m : List Nat) {b : Int} (h : 0 ≤ b) : cutL m (some b) none = m.drop b.toNat := by
  unfold cutL
  have e2 : HT.sIx m.length m.length none = m.length := rfl
  rw [sIx_pos _ _ h, e2, List.take_of_length_le (by rw [List.length_drop]; omega)]
  by_cases hh : b.toNat ≤ m.length
  · rw [Nat.min_eq_left hh]
  · rw [Nat.min_eq_right (by omega), List.drop_length, List.drop_eq_nil_of_le (by omega)]
theorem cutL_len (m : List Nat) (lo hi : Option Int) : (cutL m lo hi).length ≤ m.length := by unfold cutL; rw [List.length_take, List.length_drop]; omega
theorem cutL_mem {m : List Nat} {lo hi : Option Int} {c : Nat} (h : c ∈ cutL m lo hi) : c ∈ m := List.mem_of_mem_drop (List.mem_of_mem_take h)
theorem cutL_mid (m : List Nat) {a b : Int} (h : 0 ≤ a) (h2 : 0 ≤ b) : (cutL m (some a) (some b)).length ≤ b.toNat - a.toNat := by
  unfold cutL; rw [List.length_take, List.length_drop, sIx_pos _ _ h, sIx_pos _ _ h2]; omega
theorem Asc.cut {n : Nat} {l : List Nat} (h : Asc n l) (lo hi : Option Int) : Asc n (cutL l lo hi) := ⟨fun c hc => h.lt c (cutL_mem hc), Nat.le_trans (cutL_len _ _ _) h.len⟩
theorem Asc.app {n m : Nat} {l k : List Nat} (h : Asc n l) (h' : Asc m k) : Asc (n + m) (l ++ k) :=
  ⟨fun c hc => (List.mem_append.mp hc).elim (h.lt c) (h'.lt c), by have := h.len; have := h'.len; rw [List.length_append]; omega⟩
end My

set_option Elab.async false
set_option linter.all false
set_option maxRecDepth 100000
set_option maxHeartbeats 4000000
/-! near texts: the forms they share -/
namespace My
open PySem L2 PyProof.Rows
theorem cpl_take : ∀ p q : List Nat, p.take (cpl p q) = q.take (cpl p q)
  | [], [] => rfl
  | [], _ :: _ => by simp [cpl]
  | _ :: _, [] => by simp [cpl]
  | a :: x, b :: y => by
    unfold cpl
    by_cases h : a = b
    · subst h; rw [if_pos rfl, List.take_succ_cons, List.take_succ_cons, cpl_take x y]
    · rw [if_neg h]; rfl
/-- near after a shared start -/
def nearS (F S : List Nat) : Prop := F = S ∨ F.drop 1 = S ∨ F = S.drop 1 ∨ F.drop 1 = S.drop 1
theorem nearD_iff (F S : List Nat) : nearD F S = true ↔ nearS F S := by
  rw [← near_law]
  simp only [nearS, Bool.or_eq_true, decide_eq_true_eq]
theorem nearS_down : ∀ F S : List Nat, nearS F S → nearS (F.drop (cpl F S)) (S.drop (cpl F S))
  | [], [], h => by simpa [cpl] using h
  | [], _ :: _, h => by simpa [cpl] using h
  | _ :: _, [], h => by simpa [cpl] using h
  | a :: x, b :: y, h => by
    unfold cpl
    by_cases e : a = b
    · subst e
      rw [if_pos rfl, List.drop_succ_cons, List.drop_succ_cons]
      refine nearS_down x y ?_
      rcases h with h | h | h | h
      · exact .inl (List.cons.inj h).2
      · have h : x = a :: y := h
        exact .inr (.inl (by rw [h]; rfl))
      · have h : a :: x = y := h
        exact .inr (.inr (.inl (by rw [← h]; rfl)))
      · have h : x = y := h
        exact .inl h
    · rw [if_neg e]; exact h
theorem cpl_cut : ∀ (k : Nat) (p q : List Nat), k ≤ p.length → k ≤ q.length → p.take k = q.take k → cpl p q = k + cpl (p.drop k) (q.drop k)
  | 0, p, q, _, _, _ => by simp
  | k + 1, [], q, h, _, _ => by simp at h
  | k + 1, a :: x, [], _, h, _ => by simp at h
  | k + 1, a :: x, b :: y, h1, h2, h => by
    rw [List.take_succ_cons, List.take_succ_cons] at h
    obtain ⟨e, h5⟩ := List.cons.inj h
    subst e
    rw [List.drop_succ_cons, List.drop_succ_cons]
    show (if a = a then cpl x y + 1 else 0) = _
    rw [if_pos rfl, cpl_cut k x y (by simpa using h1) (by simpa using h2) h5]
    omega
/-- a form -/
def frm (a b : List Nat) : D := .tup [.str a, .str b]
theorem frm_inj {a b c d : List Nat} (h : frm a b = frm c d) : a = c ∧ b = d := by
  unfold frm at h
  simpa using h
def formsK (p : List Nat) (k : Nat) : List D := [frm (p.take k) (p.drop k), frm (p.take k) (p.drop (k + 1))]
def formsD (p : List Nat) : List D := (List.range (p.length + 1)).flatMap (formsK p)
theorem formsK_len (p : List Nat) (m : Nat) : ((List.range m).flatMap (formsK p)).length = 2 * m := by
  induction m with
  | zero => rfl
  | succ m ih => rw [List.range_succ, List.flatMap_append, List.length_append, ih]; simp [formsK]; omega
theorem forms_hk (p : List Nat) : ∀ d ∈ formsD p, d.hk false = true := by
  intro d hd
  obtain ⟨k, _, h⟩ := List.mem_flatMap.mp hd
  unfold formsK at h
  simp only [List.mem_cons, List.not_mem_nil, or_false] at h
  rcases h with rfl | rfl <;> rfl
theorem mem_forms {p : List Nat} {a b : List Nat} : frm a b ∈ formsD p ↔ ∃ k, k ≤ p.length ∧ a = p.take k ∧ (b = p.drop k ∨ b = p.drop (k + 1)) := by
  unfold formsD
  rw [List.mem_flatMap]
  constructor
  · rintro ⟨k, hk, h⟩
    rw [List.mem_range] at hk
    unfold formsK at h
    simp only [List.mem_cons, List.not_mem_nil, or_false] at h
    rcases h with h | h
    · obtain ⟨h1, h2⟩ := frm_inj h
      exact ⟨k, by omega, h1, .inl h2⟩
    · obtain ⟨h1, h2⟩ := frm_inj h
      exact ⟨k, by omega, h1, .inr h2⟩
  · rintro ⟨k, hk, rfl, h⟩
    refine ⟨k, List.mem_range.mpr (by omega), ?_⟩
    unfold formsK
    rcases h with rfl | rfl <;> simp
theorem forms_form {p : List Nat} {d : D} (h : d ∈ formsD p) : ∃ a b, d = frm a b := by
  obtain ⟨k, _, h⟩ := List.mem_flatMap.mp h
  unfold formsK at h
  simp only [List.mem_cons, List.not_mem_nil, or_false] at h
  rcases h with rfl | rfl <;> exact ⟨_, _, rfl⟩
theorem near_shared (p q : List Nat) : (∃ d, d ∈ formsD p ∧ d ∈ formsD q) ↔ near p q = true := by
  unfold near
  rw [nearD_iff]
  constructor
  · rintro ⟨d, h1, h2⟩
    obtain ⟨a, b, rfl⟩ := forms_form h1
    obtain ⟨k, hk, e1, b1⟩ := mem_forms.mp h1
    obtain ⟨j, hj, e2, b2⟩ := mem_forms.mp h2
    have hkj : k = j := by
      have := congrArg List.length (e1.symm.trans e2)
      rw [List.length_take, List.length_take] at this
      omega
    subst hkj
    have ht := e1.symm.trans e2
    have hc := cpl_cut k p q hk hj ht
    have hn : nearS (p.drop k) (q.drop k) := by
      unfold nearS
      rw [List.drop_drop, List.drop_drop]
      rcases b1 with b1 | b1 <;> rcases b2 with b2 | b2
      · exact .inl (b1.symm.trans b2)
      · exact .inr (.inr (.inl (b1.symm.trans b2)))
      · exact .inr (.inl (b1.symm.trans b2))
      · exact .inr (.inr (.inr (b1.symm.trans b2)))
    have := nearS_down _ _ hn
    rw [List.drop_drop, List.drop_drop, ← hc] at this
    exact this
  · intro h
    have hl := cpl_le p q
    have ht := cpl_take p q
    generalize cpl p q = c at *
    unfold nearS at h
    rw [List.drop_drop, List.drop_drop] at h
    rcases h with h | h | h | h
    · exact ⟨frm (p.take c) (p.drop c), mem_forms.mpr ⟨c, hl.1, rfl, .inl rfl⟩, mem_forms.mpr ⟨c, hl.2, ht, .inl h⟩⟩
    · exact ⟨frm (p.take c) (p.drop (c + 1)), mem_forms.mpr ⟨c, hl.1, rfl, .inr rfl⟩, mem_forms.mpr ⟨c, hl.2, ht, .inl h⟩⟩
    · exact ⟨frm (p.take c) (p.drop c), mem_forms.mpr ⟨c, hl.1, rfl, .inl rfl⟩, mem_forms.mpr ⟨c, hl.2, ht, .inr h⟩⟩
    · exact ⟨frm (p.take c) (p.drop (c + 1)), mem_forms.mpr ⟨c, hl.1, rfl, .inr rfl⟩, mem_forms.mpr ⟨c, hl.2, ht, .inr h⟩⟩
def sharedF (p q : List Nat) : List D := (ded (formsD p)).filter fun d => decide (d ∈ formsD q)
theorem shared_mem {p q : List Nat} {d : D} : d ∈ sharedF p q ↔ d ∈ formsD p ∧ d ∈ formsD q := by
  unfold sharedF; rw [List.mem_filter, ded_mem, decide_eq_true_eq]
theorem shared_near (p q : List Nat) : decide ((0 : Int) < (sharedF p q).length) = near p q := by
  rw [Bool.eq_iff_iff, decide_eq_true_eq, ← near_shared]
  constructor
  · intro h
    match hs : sharedF p q with
    | [] => rw [hs] at h; simp at h
    | d :: r =>
      have : d ∈ sharedF p q := by rw [hs]; exact List.mem_cons_self
      exact ⟨d, shared_mem.mp this⟩
  · rintro ⟨d, h⟩
    have := shared_mem.mpr h
    have := List.length_pos_of_mem this
    omega
end My

set_option Elab.async false
set_option linter.all false
set_option maxRecDepth 100000
set_option maxHeartbeats 4000000
namespace My
open PySem L2 PyProof.Rows
def top (i : Nat) : Stmt := PySem.Challenge.pw_folk_k06_near_texts.main.body.getD i (.Pass ⟨0, 0, 0, 0⟩)
abbrev s_plain_of : Stmt := top 1
theorem sc_plain_of : FnScope ["text", "words"] ["text"] (defScope s_plain_of) := ⟨rfl, rfl, rfl, by decide +kernel, rfl, by decide +kernel, by decide +kernel⟩
abbrev s_near_forms : Stmt := top 3
theorem sc_near_forms : FnScope ["text", "plain", "forms", "place"] ["text"] (defScope s_near_forms) := ⟨rfl, rfl, rfl, by decide +kernel, rfl, by decide +kernel, by decide +kernel⟩
abbrev s_is_near : Stmt := top 4
theorem sc_is_near : FnScope ["one", "other"] ["one", "other"] (defScope s_is_near) := ⟨rfl, rfl, rfl, by decide +kernel, rfl, by decide +kernel, by decide +kernel⟩
abbrev s_law_cell_at : Stmt := top 6
theorem sc_law_cell_at : FnScope ["_law_script", "_law_k"] ["_law_script", "_law_k"] (defScope s_law_cell_at) := ⟨rfl, rfl, rfl, by decide +kernel, rfl, by decide +kernel, by decide +kernel⟩
abbrev s_law_sign : Stmt := top 7
theorem sc_law_sign : FnScope ["_law_cell", "_law_some"] ["_law_cell"] (defScope s_law_sign) := ⟨rfl, rfl, rfl, by decide +kernel, rfl, by decide +kernel, by decide +kernel⟩
abbrev s_law_small : Stmt := top 8
theorem sc_law_small : FnScope ["_law_sign_here", "_law_at"] ["_law_sign_here"] (defScope s_law_small) := ⟨rfl, rfl, rfl, by decide +kernel, rfl, by decide +kernel, by decide +kernel⟩
abbrev s_law_plain : Stmt := top 9
theorem sc_law_plain : FnScope ["_law_text", "_law_plain_here", "_law_sign_here"] ["_law_text"] (defScope s_law_plain) := ⟨rfl, rfl, rfl, by decide +kernel, rfl, by decide +kernel, by decide +kernel⟩
abbrev s_law_great : Stmt := top 10
theorem sc_law_great : FnScope ["_law_text", "_law_cell", "_law_turned", "_law_number", "_law_sign_here", "_law_at"] ["_law_text", "_law_cell"] (defScope s_law_great) := ⟨rfl, rfl, rfl, by decide +kernel, rfl, by decide +kernel, by decide +kernel⟩
abbrev s_law_bent : Stmt := top 11
theorem sc_law_bent : FnScope ["_law_text", "_law_cell", "_law_at", "_law_sign_here", "_law_two"] ["_law_text", "_law_cell"] (defScope s_law_bent) := ⟨rfl, rfl, rfl, by decide +kernel, rfl, by decide +kernel, by decide +kernel⟩
abbrev s_law_near : Stmt := top 12
theorem sc_law_near : FnScope ["_law_one", "_law_other", "_law_ahead"] ["_law_one", "_law_other"] (defScope s_law_near) := ⟨rfl, rfl, rfl, by decide +kernel, rfl, by decide +kernel, by decide +kernel⟩
abbrev s_law : Stmt := top 13
theorem sc_law : FnScope ["_law_script", "_law_text", "_law_cell", "_law_sign_here", "_law_first", "_law_other", "_law_k", "_law_due", "_law_found"] ["_law_script"] (defScope s_law) := ⟨rfl, rfl, rfl, by decide +kernel, rfl, by decide +kernel, by decide +kernel⟩
structure Tx (K : PySem.W.Frag) (mg : Str → Option Value) (f_plain_of f_near_forms f_is_near f_law_cell_at f_law_sign f_law_small f_law_plain f_law_great f_law_bent f_law_near f_law : Addr) (d_plain_of d_near_forms d_is_near d_law_cell_at d_law_sign d_law_small d_law_plain d_law_great d_law_bent d_law_near d_law : FuncData) : Prop where
  F_plain_of : Fun K "plain_of" "plain_of" s_plain_of f_plain_of d_plain_of
  B_plain_of : Binds K d_plain_of ["text"] []
  M_plain_of : mg "plain_of" = some (.ref f_plain_of)
  F_near_forms : Fun K "near_forms" "near_forms" s_near_forms f_near_forms d_near_forms
  B_near_forms : Binds K d_near_forms ["text"] []
  M_near_forms : mg "near_forms" = some (.ref f_near_forms)
  F_is_near : Fun K "is_near" "is_near" s_is_near f_is_near d_is_near
  B_is_near : Binds K d_is_near ["one", "other"] []
  M_is_near : mg "is_near" = some (.ref f_is_near)
  F_law_cell_at : Fun K "_law_cell_at" "_law_cell_at" s_law_cell_at f_law_cell_at d_law_cell_at
  B_law_cell_at : Binds K d_law_cell_at ["_law_script", "_law_k"] []
  M_law_cell_at : mg "_law_cell_at" = some (.ref f_law_cell_at)
  F_law_sign : Fun K "_law_sign" "_law_sign" s_law_sign f_law_sign d_law_sign
  B_law_sign : Binds K d_law_sign ["_law_cell"] []
  M_law_sign : mg "_law_sign" = some (.ref f_law_sign)
  F_law_small : Fun K "_law_small" "_law_small" s_law_small f_law_small d_law_small
  B_law_small : Binds K d_law_small ["_law_sign_here"] []
  M_law_small : mg "_law_small" = some (.ref f_law_small)
  F_law_plain : Fun K "_law_plain" "_law_plain" s_law_plain f_law_plain d_law_plain
  B_law_plain : Binds K d_law_plain ["_law_text"] []
  M_law_plain : mg "_law_plain" = some (.ref f_law_plain)
  F_law_great : Fun K "_law_great" "_law_great" s_law_great f_law_great d_law_great
  B_law_great : Binds K d_law_great ["_law_text", "_law_cell"] []
  M_law_great : mg "_law_great" = some (.ref f_law_great)
  F_law_bent : Fun K "_law_bent" "_law_bent" s_law_bent f_law_bent d_law_bent
  B_law_bent : Binds K d_law_bent ["_law_text", "_law_cell"] []
  M_law_bent : mg "_law_bent" = some (.ref f_law_bent)
  F_law_near : Fun K "_law_near" "_law_near" s_law_near f_law_near d_law_near
  B_law_near : Binds K d_law_near ["_law_one", "_law_other"] []
  M_law_near : mg "_law_near" = some (.ref f_law_near)
  F_law : Fun K "law" "law" s_law f_law d_law
  B_law : Binds K d_law ["_law_script"] []
  M_law : mg "law" = some (.ref f_law)
  z_bool : mg "bool" = none
  z_isinstance : mg "isinstance" = none
  z_len : mg "len" = none
  z_min : mg "min" = none
  z_range : mg "range" = none
  z_set : mg "set" = none
section
variable {P : Program} {w : World} {K : PySem.W.Frag} {mg : Str → Option Value} {base : Heap} {f_plain_of f_near_forms f_is_near f_law_cell_at f_law_sign f_law_small f_law_plain f_law_great f_law_bent f_law_near f_law : Addr} {d_plain_of d_near_forms d_is_near d_law_cell_at d_law_sign d_law_small d_law_plain d_law_great d_law_bent d_law_near d_law : FuncData}
def spLaw (K : PySem.W.Frag) : Sp := fun vs H Q _ => ∃ (a : Addr) (ns : List Int), vs = [.ref a] ∧ SqL K H a (ns.map V.int) ∧ ns.length ≤ 63 ∧ ∀ H', Q (.bl true) H'
def spPlain : Sp := fun vs H Q _ => ∃ l, vs = [.str (T l)] ∧ Asc 1000 l ∧ ∀ H', Same H H' → Q (.str (T (plain l))) H'
theorem ok_plain_of (Z : Tx K mg f_plain_of f_near_forms f_is_near f_law_cell_at f_law_sign f_law_small f_law_plain f_law_great f_law_bent f_law_near f_law d_plain_of d_near_forms d_is_near d_law_cell_at d_law_sign d_law_small d_law_plain d_law_great d_law_bent d_law_near d_law) : FnOk P w K mg base CX0 1 f_plain_of d_plain_of ["text"] spPlain := by
  refine Z.F_plain_of.ok sc_plain_of (fun vs H Q E h => ?_) (fun cdv A outer s H vs Q E hr h => ?_)
  · obtain ⟨l, rfl, _⟩ := h
    rfl
  · obtain ⟨l, rfl, A1, k⟩ := h
    have hl := A1.len
    refine ⟨_, (pss_cons (ps_setLC (i := 1) sc_plain_of.nd rfl (Or.inl rfl) rfl (LcOk.of (Nx := (["text", "words"] : List Str)) (sc := defScope s_plain_of) (N' := (["word"] : List Str)) (nt := 1) (cs := []) rfl rfl (by decide +kernel)) (pi_list (pe_bm F.plainAttrs_str F.slot_str_split F.type_str_split mt_split (pe_bm0 F.plainAttrs_str F.slot_str_lower F.type_str_lower mt_lower (pv 0)) (pa_cons pe_str pa_nil))) (fun _ _ _ _ => (pg_name (i := 0) (show List.Nodup (["word"] : List Str) by decide +kernel) rfl (Or.inl rfl))) (fun _ _ _ _ => (pifs_one (pt_cmpR op_ne (pv 0) pe_str (nomark _)))) (fun _ _ _ _ => (pv 0)))
      (pss_one (ps_ret (pe_bm F.plainAttrs_str F.slot_str_join F.type_str_join mt_join pe_str (pa_cons (pv 1) pa_nil))))), ?_⟩
    obtain ⟨ps, ep, hf, ej⟩ := split_T (l.map lo1)
    have hlow : Txt.lower (T l) = T (l.map lo1) := lower_T A1.lt
    have hps : ps.length ≤ 1002 := by
      have := split_len (T (l.map lo1)) (T [32])
      rw [ep, T_len, List.length_map, List.length_map] at this
      omega
    have e32 : (" " : Str) = T [32] := by decide +kernel
    have e0 : ("" : Str) = T [] := by decide +kernel
    refine ⟨_, rfl, rfl, _, rfl, rfl, (by rw [T_len]; omega), rfl, _, _, rfl, rfl, rfl, ?_, fun p hp => ⟨p, rfl, ⟨_, SqL.of upd_same⟩, ?_⟩⟩
    · rw [hlow, T_len, List.length_map]; exact big2000 (by omega)
    have ex : (Txt.split (Txt.lower (T l)) (" " : Str)).map V.str = ps.map (fun z => V.str (T z)) := by
      rw [hlow, e32, ep, List.map_map]; rfl
    refine lc_list (xs := (Txt.split (Txt.lower (T l)) (" " : Str)).map V.str) (fun v => !decide (v = .str (T []))) (fun v => v) (SqL.of upd_same) (by rw [ex, List.length_map]; exact big2000 (by omega)) ?_ ?_
    · intro i x H2 R hx sm h1 h2
      rw [ex, List.getElem?_map] at hx
      cases e : ps[i]? with
      | none => rw [e] at hx; cases hx
      | some y =>
        rw [e] at hx
        cases hx
        refine ⟨⟨rfl, rfl⟩, _, rfl, rfl, _, rfl, ?_⟩
        rw [e0]
        cases hb : (!decide (V.str (T y) = V.str (T []))) with
        | true => exact iteT ⟨_, rfl, h1 _ (Same.refl _) hb⟩
        | false => exact iteF (h2 _ (Same.refl _) hb)
    · intro l' H' hn sm hl'
      have ew : ((Txt.split (Txt.lower (T l)) (" " : Str)).map V.str).filter (fun v => !decide (v = .str (T []))) = ((ps.filter fun p => !p.isEmpty).map T).map V.str := by
        rw [ex, List.filter_map, List.map_map]
        refine congrArg _ (List.filter_congr fun z _ => ?_)
        show (!decide (V.str (T z) = V.str (T []))) = !z.isEmpty
        rw [T_decide]; cases z <;> simp
      rw [List.map_id', ew] at hl'
      have hw : ((ps.filter fun p => !p.isEmpty).map (·.length)).sum + (ps.filter fun p => !p.isEmpty).length ≤ 2000 := by
        have h1 := joinL_weight ps
        have h2 := filter_weight (fun p => !p.isEmpty) ps
        rw [ej, List.length_map] at h1
        omega
      refine ⟨rfl, _, rfl, _, _, (ps.filter fun p => !p.isEmpty).map T, rfl, rfl, SqL.of hl', ?_, ?_⟩
      · have e1 : (((ps.filter fun p => !p.isEmpty).map T).map (·.length)).sum = ((ps.filter fun p => !p.isEmpty).map (·.length)).sum := by
          rw [List.map_map]; exact congrArg _ (List.map_congr_left fun z _ => T_len z)
        have e2 : (" " : Str).length = 1 := by decide +kernel
        rw [e1, e2, List.length_map]; omega
      · rw [e32, join_T, plain_of_parts hf ej]
        exact k H' (fun b o e => sm _ _ (by rw [upd_ne (ne_of_none e hp)]; exact e))
def spNear : Sp := fun vs H Q _ => ∃ l m, vs = [.str (T l), .str (T m)] ∧ Asc 100 l ∧ Asc 100 m ∧ ∀ H', Same H H' → Q (.bl (near (plain l) (plain m))) H'
theorem small {n : Nat} (h : n ≤ 1000) : n ≤ sizeLine := by rw [sizeLine_eq]; omega
theorem ev_plain {G H₀ L : Hp} {ss : List Sl} {t : TE} {l : List Nat} {E : XK} (a : EvB K G H₀ L ss t (.str l)) (A1 : Asc 1000 l) : Ev K G H₀ L ss (tCall spPlain [] E (tCons t tNil)) (.str (plain l)) := fun F H σ Q S q =>
  a F H σ _ S fun v F1 H1 e1 r1 => ⟨l, by rw [r1.of_str]; rfl, A1, fun H' sm => q _ F1 H' (e1.trans ⟨Same.refl _, e1.fh.trans sm, sm, fun _ _ _ => rfl⟩) (Rep.str A1.plain.lt)⟩
def preT (ds : List D) : Prop := ∃ l, ds = [.str l] ∧ Asc 100 l
def resForms : List D → List D
  | [.str l] => formsD (plain l)
  | _ => []
theorem ok_near_forms (Z : Tx K mg f_plain_of f_near_forms f_is_near f_law_cell_at f_law_sign f_law_small f_law_plain f_law_great f_law_bent f_law_near f_law d_plain_of d_near_forms d_is_near d_law_cell_at d_law_sign d_law_small d_law_plain d_law_great d_law_bent d_law_near d_law) : FnOk P w K mg base CX0 2 f_near_forms d_near_forms ["text"] (SpO K preT resForms) := by
  have G_plain_of : FnOk P w K mg base CX0 1 f_plain_of d_plain_of ["text"] spPlain := ok_plain_of Z
  refine Z.F_near_forms.ok sc_near_forms (fun vs H Q E h => spO_len (n := 1) (by rintro ds ⟨l, rfl, _⟩; rfl) h) (fun cdv A outer s H vs Q E hr h => ⟨_, (pss_cons (ps_set (i := 1) sc_near_forms.nd rfl (Or.inl rfl) (pe_call G_plain_of (hr.mono (by decide)) (by rfl) Z.M_plain_of Z.F_plain_of.kp Z.B_plain_of .nil pass0 (pa_cons (pv 0) pa_nil)))
      (pss_cons (ps_set (i := 2) sc_near_forms.nd rfl (Or.inl rfl) (pe_lst pa_nil))
      (pss_cons (ps_for PassesOwn.never rfl (pi_range1 (by rfl) Z.z_range (pa_cons (pe_op op_add (pe_callB call_len_str (by rfl) Z.z_len boot_len (pa_cons (pv 1) pa_nil)) pe_int) pa_nil)) (pg_name (i := 3) sc_near_forms.nd rfl (Or.inl rfl)) (pss_cons (ps_expr (pe_bm F.plainAttrs_list F.slot_list_append F.type_list_append mt_append (pv 2) (pa_cons (pe_tup (pa_cons (pe_slice sl_str (pv 1) po_none (po_some (pv 3))) (pa_cons (pe_slice sl_str (pv 1) (po_some (pv 3)) po_none) pa_nil))) pa_nil)))
      (pss_one (ps_expr (pe_bm F.plainAttrs_list F.slot_list_append F.type_list_append mt_append (pv 2) (pa_cons (pe_tup (pa_cons (pe_slice sl_str (pv 1) po_none (po_some (pv 3))) (pa_cons (pe_slice sl_str (pv 1) (po_some (pe_op op_add (pv 3) pe_int)) po_none) pa_nil))) pa_nil))))))
      (pss_one (ps_ret (pv 2)))))), ?_⟩)
  refine go_spO h (by rw [spO_len (n := 1) (by rintro ds ⟨l, rfl, _⟩; rfl) h]; decide) fun G ds hp rt => ?_
  obtain ⟨l, rfl, A1⟩ := hp
  have rt : RtO K G H Q (formsD (plain l)) := rt
  refine go_seq (go_set (ev_plain (ev_var rfl).b (A1.mono (by decide))) ?_)
  ((try dsimp only); refine nx_go ?_)
  have B := A1.plain
  generalize plain l = p at B rt
  have hpl := B.len
  have hz : p.length ≤ sizeLine := small (by omega)
  refine go_seq (go_setO (evo_lst evaf_nil (small (by decide))) fun q => ?_)
  ((try dsimp only); refine nx_go ?_)
  refine go_seq (go_range (n := (p.length : Int) + 1) (fun k ss => ∃ v, ss = [.d (.str l), .d (.str p), .o q ((List.range k).flatMap (formsK p)), v]) (eva_cons (ev_add (ev_lenS (ev_var rfl).b hz).b ev_int.b).b eva_nil) ⟨by omega, by omega⟩ ⟨.un, rfl⟩ ?_ ?_ (fun _ _ _ h => h))
  · rintro k ss hk ⟨v, rfl⟩ N hN
    have hlen := formsK_len p k
    have c1 : cutL p none (some (k : Int)) = p.take k := by rw [cutL_take _ (Int.natCast_nonneg _), Int.toNat_natCast]
    have c2 : cutL p (some (k : Int)) none = p.drop k := by rw [cutL_drop _ (Int.natCast_nonneg _), Int.toNat_natCast]
    have c3 : cutL p (some ((k : Int) + 1)) none = p.drop (k + 1) := by rw [cutL_drop _ (by omega), show ((k : Int) + 1).toNat = k + 1 by omega]
    refine go_seq (go_append (d := frm (p.take k) (p.drop k)) rfl (by
      unfold frm; rw [← c1, ← c2]
      exact ev_tup (evaf_cons (ev_slS (ev_var rfl).b evp_no (evp_part (ev_var rfl).b) hz) (evaf_cons (ev_slS (ev_var rfl).b (evp_part (ev_var rfl).b) evp_no hz) evaf_nil)) (small (by simp))) (by rw [hlen, sizeLine_eq]; omega) ?_)
    ((try dsimp only); refine nx_go ?_)
    refine go_append (d := frm (p.take k) (p.drop (k + 1))) rfl (by
      unfold frm; rw [← c1, ← c3]
      exact ev_tup (evaf_cons (ev_slS (ev_var rfl).b evp_no (evp_part (ev_var rfl).b) hz) (evaf_cons (ev_slS (ev_var rfl).b (evp_part (ev_add (ev_var rfl).b ev_int.b).b) evp_no hz) evaf_nil)) (small (by simp))) (by rw [List.length_append, hlen, sizeLine_eq]; simp; omega) (hN _ ⟨.d (.int k), ?_⟩)
    rw [List.range_succ, List.flatMap_append, List.flatMap_singleton]
    show _ = [_, _, Sl.o q (_ ++ [frm _ _, frm _ _]), _]
    rw [List.append_assoc]; rfl
  · rintro ss ⟨v, rfl⟩
    ((try dsimp only); refine nx_go ?_)
    refine go_retV (i := 2) rfl ?_
    rw [show ((p.length : Int) + 1).toNat = p.length + 1 by omega]
    exact rt
theorem ok_is_near (Z : Tx K mg f_plain_of f_near_forms f_is_near f_law_cell_at f_law_sign f_law_small f_law_plain f_law_great f_law_bent f_law_near f_law d_plain_of d_near_forms d_is_near d_law_cell_at d_law_sign d_law_small d_law_plain d_law_great d_law_bent d_law_near d_law) : FnOk P w K mg base CX0 3 f_is_near d_is_near ["one", "other"] spNear := by
  have G_near_forms := ok_near_forms (P := P) (w := w) (base := base) Z
  refine Z.F_is_near.ok sc_is_near (fun vs H Q E h => by obtain ⟨l, m, rfl, _⟩ := h; rfl) (fun cdv A outer s H vs Q E hr h => ⟨_, (pss_one (ps_ret (pe_cmpR op_gt (pe_callB (show CallR _ _ (rLenS P w K false) from call_lenS) (by rfl) Z.z_len boot_len (pa_cons (pe_op (show OpR _ _ (rSet2 P w K false mAnd) from op_andS hr.units) (pe_callTy (show CallR _ _ (rSetOf P w K false) from call_setL rfl hr.units) (by rfl) Z.z_set boot_set (pa_cons (pe_call G_near_forms (hr.mono (by decide)) (by rfl) Z.M_near_forms Z.F_near_forms.kp Z.B_near_forms .nil pass0 (pa_cons (pv 0) pa_nil)) pa_nil)) (pe_callTy (show CallR _ _ (rSetOf P w K false) from call_setL rfl hr.units) (by rfl) Z.z_set boot_set (pa_cons (pe_call G_near_forms (hr.mono (by decide)) (by rfl) Z.M_near_forms Z.F_near_forms.kp Z.B_near_forms .nil pass0 (pa_cons (pv 1) pa_nil)) pa_nil))) pa_nil)) pe_int (nomark _)))), ?_⟩)
  obtain ⟨l, m, rfl, A1, A2, k⟩ := h
  have r : Reps K H [.str l, .str m] [.str (T l), .str (T m)] := Reps.cons (Rep.str A1.lt) (Reps.cons (Rep.str A2.lt) Reps.nil)
  have rt : RtD K H H Q (.bl (near (plain l) (plain m))) := fun v F H' e r => by rw [r.of_bl]; exact k H' e.hh
  refine (?_ : Go K H H H _ (slots 2 [.str l, .str m]) _) H H _ (sat_start (Same.refl H) r (by simp))
  rw [← shared_near] at rt
  have l1 : (formsD (plain l)).length ≤ 202 := by unfold formsD; rw [formsK_len]; have := A1.plain.len; omega
  have l2 : (formsD (plain m)).length ≤ 202 := by unfold formsD; rw [formsK_len]; have := A2.plain.len; omega
  exact go_ret (ev_gt (ev_lenSet (sharedF (plain l) (plain m)) (evs_and (dr := sharedF (plain l) (plain m)) (evs_set (ds := formsD (plain l)) (EvO.l (evo_call (pre := preT) (res := resForms) (evaf_cons (ev_var rfl) evaf_nil) ⟨l, rfl, A1⟩)) (forms_hk _) (by omega)) (evs_set (ds := formsD (plain m)) (EvO.l (evo_call (pre := preT) (res := resForms) (evaf_cons (ev_var rfl) evaf_nil) ⟨m, rfl, A2⟩)) (forms_hk _) (by omega)) (forms_hk _) (forms_hk _) (by omega) fun d => shared_mem) (fun d hd => forms_hk _ d (shared_mem.mp hd).1) ((ded_nodup _).sublist List.filter_sublist) fun d => Iff.rfl).b ev_int.b) rt
def spSign : Sp := fun vs H Q _ => ∃ i, vs = [.int i] ∧ ∀ c, c < 128 → Q (.str (T [c])) H
theorem ok_law_sign (Z : Tx K mg f_plain_of f_near_forms f_is_near f_law_cell_at f_law_sign f_law_small f_law_plain f_law_great f_law_bent f_law_near f_law d_plain_of d_near_forms d_is_near d_law_cell_at d_law_sign d_law_small d_law_plain d_law_great d_law_bent d_law_near d_law) : FnOk P w K mg base CX0 1 f_law_sign d_law_sign ["_law_cell"] spSign := by
  refine Z.F_law_sign.ok sc_law_sign (fun vs H Q E h => ?_) (fun cdv A outer s H vs Q E hr h => ?_)
  · obtain ⟨i, rfl, _⟩ := h
    rfl
  · obtain ⟨i, rfl, k⟩ := h
    refine ⟨_, (pss_cons (ps_set (i := 1) sc_law_sign.nd rfl (Or.inl rfl) pe_str)
      (pss_cons (ps_set (i := 1) sc_law_sign.nd rfl (Or.inl rfl) (pe_op op_add_str (pv 1) pe_str))
      (pss_one (ps_ret (pe_ix ix_str (pv 1) (pe_op op_mod (pv 0) pe_int) (fun _ _ => rfl)))))), ?_⟩
    refine ⟨_, rfl, _, _, rfl, rfl, (by decide +kernel), ?_⟩
    generalize hz : (_ ++ _ : Str) = z
    have h94 : z.cps.toList.length = 94 := by rw [← hz]; decide +kernel
    have hlt : ∀ c ∈ z.cps.toList, c < 128 := by rw [← hz]; decide +kernel
    have h0 : 0 ≤ i % 94 := Int.emod_nonneg _ (by decide)
    have h1 : i % 94 < 94 := Int.emod_lt_of_pos _ (by decide)
    obtain ⟨c, hc, hat, _⟩ := atI_ex (xs := z.cps.toList) h0 (by omega)
    refine ⟨_, rfl, _, rfl, _, _, rfl, rfl, (by show (0 : Int) < 94; decide), z, i % 94, c, rfl, rfl, ?_, hat, k c (hlt c hc)⟩
    have : z.length = 94 := by rw [← h94]; simp [Str.length]
    rw [this, sizeLine_eq]; decide
def spSmall : Sp := fun vs H Q _ => ∃ c, vs = [.str (T [c])] ∧ c < 128 ∧ Q (.str (T [lo1 c])) H
theorem ok_law_small (Z : Tx K mg f_plain_of f_near_forms f_is_near f_law_cell_at f_law_sign f_law_small f_law_plain f_law_great f_law_bent f_law_near f_law d_plain_of d_near_forms d_is_near d_law_cell_at d_law_sign d_law_small d_law_plain d_law_great d_law_bent d_law_near d_law) : FnOk P w K mg base CX0 1 f_law_small d_law_small ["_law_sign_here"] spSmall := by
  refine Z.F_law_small.ok sc_law_small (fun vs H Q E h => ?_) (fun cdv A outer s H vs Q E hr h => ?_)
  · obtain ⟨i, rfl, _⟩ := h
    rfl
  · obtain ⟨c, rfl, hc, k⟩ := h
    refine ⟨_, (pss_cons (ps_set (i := 1) sc_law_small.nd rfl (Or.inl rfl) (pe_bm F.plainAttrs_str F.slot_str_find F.type_str_find mt_find pe_str (pa_cons (pv 0) pa_nil)))
      (pss_cons (ps_if (pt_cmpR op_lt (pv 1) pe_int (nomark _)) (pss_one (ps_ret (pv 0))) pss_nil)
      (pss_one (ps_ret (pe_ix ix_str pe_str (pv 1) (fun _ _ => rfl)))))), ?_⟩
    have ef := find_up c hc
    rw [← up_str] at ef
    refine ⟨rfl, _, rfl, _, _, rfl, rfl, ?_⟩
    rw [ef]
    by_cases hu : 65 ≤ c ∧ c ≤ 90
    · rw [if_pos hu]
      have hlo : lo1 c = c + 32 := by unfold lo1; rw [if_pos hu]
      refine ⟨_, rfl, _, _, rfl, rfl, _, rfl, ?_⟩
      rw [decide_eq_false (by omega)]
      refine iteF ?_
      refine ⟨_, rfl, _, (c : Int) - 65, lo1 c, rfl, rfl, (by decide +kernel), ?_, k⟩
      rw [dn_str, T_cps]
      have e : (c : Int) - 65 = ((c - 65 : Nat) : Int) := by omega
      rw [e]
      refine atI_nat ?_
      unfold dn
      rw [List.getElem?_map, List.getElem?_range (by omega), hlo]
      show some (97 + (c - 65)) = some (c + 32)
      congr 1; omega
    · rw [if_neg hu]
      have hlo : lo1 c = c := by unfold lo1; rw [if_neg hu]
      refine ⟨_, rfl, _, _, rfl, rfl, _, rfl, ?_⟩
      refine iteT ?_
      rw [hlo] at k
      exact ⟨_, rfl, k⟩
def spLPlain : Sp := fun vs H Q _ => ∃ l, vs = [.str (T l)] ∧ Asc 1000 l ∧ Q (.str (T (plain l))) H
theorem ok_law_plain (Z : Tx K mg f_plain_of f_near_forms f_is_near f_law_cell_at f_law_sign f_law_small f_law_plain f_law_great f_law_bent f_law_near f_law d_plain_of d_near_forms d_is_near d_law_cell_at d_law_sign d_law_small d_law_plain d_law_great d_law_bent d_law_near d_law) : FnOk P w K mg base CX0 2 f_law_plain d_law_plain ["_law_text"] spLPlain := by
  have G_law_small : FnOk P w K mg base CX0 1 f_law_small d_law_small ["_law_sign_here"] spSmall := ok_law_small Z
  refine Z.F_law_plain.ok sc_law_plain (fun vs H Q E h => ?_) (fun cdv A outer s H vs Q E hr h => ?_)
  · obtain ⟨i, rfl, _⟩ := h
    rfl
  · obtain ⟨l, rfl, A1, k⟩ := h
    have hl := A1.len
    refine ⟨_, (pss_cons (ps_set (i := 1) sc_law_plain.nd rfl (Or.inl rfl) pe_str)
      (pss_cons (ps_for PassesOwn.never rfl (pi_str (pv 0)) (pg_name (i := 2) sc_law_plain.nd rfl (Or.inl rfl)) (pss_one (ps_if (pw_or (pt_cmpR op_ne (pv 2) pe_str (nomark _)) (pw_or1 (pw_and (pt_cmpR op_ne (pv 1) pe_str (nomark _)) (pw_and1 (pt_cmpR op_ne (pe_ix ix_str (pv 1) (pe_un un_neg pe_int) (fun _ _ => rfl)) pe_str (nomark _)))).pt)).pt (pss_one (ps_set (i := 1) sc_law_plain.nd rfl (Or.inl rfl) (pe_op op_add_str (pv 1) (pe_call G_law_small (hr.mono (by decide)) (by rfl) Z.M_law_small Z.F_law_small.kp Z.B_law_small .nil pass0 (pa_cons (pv 2) pa_nil))))) pss_nil)))
      (pss_cons (ps_if (pw_and (pt_cmpR op_ne (pv 1) pe_str (nomark _)) (pw_and1 (pt_cmpR op_eq (pe_ix ix_str (pv 1) (pe_un un_neg pe_int) (fun _ _ => rfl)) pe_str (nomark _)))).pt (pss_one (ps_ret (pe_slice sl_str (pv 1) po_none (po_some (pe_un un_neg pe_int))))) pss_nil)
      (pss_one (ps_ret (pv 1)))))), ?_⟩
    have e32 : (" " : Str) = T [32] := by decide +kernel
    have e0 : ("" : Str) = T [] := by decide +kernel
    have hfl : ∀ i, ((l.take i).foldl stepP []).length ≤ 1000 := fun i => by
      have hP : ∀ (l acc : List Nat), (l.foldl stepP acc).length ≤ acc.length + l.length := by
        intro l
        induction l with
        | nil => intro acc; simp
        | cons c r ih =>
          intro acc
          rw [List.foldl_cons]
          have := ih (stepP acc c)
          have h2 : (stepP acc c).length ≤ acc.length + 1 := by unfold stepP; split <;> simp
          simp only [List.length_cons]; omega
      have := hP (l.take i) []
      have h3 : (l.take i).length ≤ l.length := by rw [List.length_take]; exact Nat.min_le_right _ _
      simp only [List.length_nil] at this
      omega
    refine ⟨_, rfl, _, rfl, for_str (z := l) (fun i σ H' => H' = H ∧ ∃ v, σ = [some (.str (T l)), some (.str (T ((l.take i).foldl stepP []))), v]) ⟨rfl, none, by rw [e0]; rfl⟩ ?_ ?_⟩
    · rintro i c σ H' hc ⟨rfl, v, rfl⟩
      have hc128 : c < 128 := A1.lt c (List.mem_of_getElem? hc)
      have hstep : (l.take (i + 1)).foldl stepP [] = stepP ((l.take i).foldl stepP []) c := by
        rw [List.take_add_one, hc, List.foldl_append]; rfl
      have hlen := hfl i
      generalize hacc : (l.take i).foldl stepP [] = acc at *
      have fin : (c ≠ 32 ∨ (acc ≠ [] ∧ acc.getLast? ≠ some 32)) → H' = H' ∧ ∃ v, (([some (V.str (T l)), some (.str (T acc)), some (.str (T [c]))] : L2.St).set 1 (some (.str (T acc ++ T [lo1 c])))) = [some (.str (T l)), some (.str (T ((l.take (i + 1)).foldl stepP []))), v] := fun h => by
        refine ⟨rfl, some (.str (T [c])), ?_⟩
        rw [hstep, T_app]
        unfold stepP
        rw [if_pos h]
        rfl
      have fin0 : ¬ (c ≠ 32 ∨ (acc ≠ [] ∧ acc.getLast? ≠ some 32)) → H' = H' ∧ ∃ v, ([some (V.str (T l)), some (.str (T acc)), some (.str (T [c]))] : L2.St) = [some (.str (T l)), some (.str (T ((l.take (i + 1)).foldl stepP []))), v] := fun h => by
        refine ⟨rfl, some (.str (T [c])), ?_⟩
        rw [hstep]
        unfold stepP
        rw [if_neg h]
      have hz : (T acc).length + (T [lo1 c]).length ≤ sizeLine := by rw [T_len, T_len]; exact big2000 (by simp; omega)
      refine ⟨_, rfl, rfl, _, rfl, ?_⟩
      refine ite_n (c := [c] = [32]) (congrArg not (str_dec rfl e32)) (fun h => ?_) (fun h => ?_)
      · refine iteT ?_
        exact ⟨_, rfl, _, rfl, c, rfl, hc128, _, _, rfl, rfl, hz, fin (.inl (by simpa using h))⟩
      · have h32 : c = 32 := by simpa using h
        refine ⟨_, rfl, rfl, _, rfl, ?_⟩
        refine ite_n (c := acc = []) (congrArg not (str_dec rfl e0)) (fun h2 => ?_) (fun h2 => ?_)
        · obtain ⟨d, hd⟩ : ∃ d, acc.getLast? = some d := by
            cases q : acc.getLast? with
            | none => exact absurd (List.getLast?_eq_none_iff.mp q) h2
            | some d => exact ⟨d, rfl⟩
          refine ⟨_, rfl, _, rfl, _, _, d, rfl, rfl, (by rw [T_len]; exact big2000 (by omega)), (by rw [T_cps]; exact atI_neg1 hd), rfl, _, rfl, ?_⟩
          refine ite_n (c := [d] = [32]) (congrArg not (str_dec rfl e32)) (fun h3 => ?_) (fun h3 => ?_)
          · exact ⟨_, rfl, _, rfl, c, rfl, hc128, _, _, rfl, rfl, hz, fin (.inr ⟨h2, by rw [hd]; intro e; exact h3 (by injection e with e; rw [e])⟩)⟩
          · refine fin0 fun z => ?_
            rcases z with z | ⟨_, z⟩
            · exact z h32
            · exact z (by rw [hd]; simpa using h3)
        · refine iteF (fin0 fun z => ?_)
          rcases z with z | ⟨z, _⟩
          · exact z h32
          · exact z h2
    · rintro σ H' ⟨rfl, v, rfl⟩
      rw [List.take_length]
      have hlen := hfl l.length
      rw [List.take_length] at hlen
      have hpl : plain l = trim (l.foldl stepP []) := rfl
      rw [hpl] at k
      generalize l.foldl stepP [] = r at *
      refine ⟨_, rfl, rfl, _, rfl, ?_⟩
      refine ite_n (c := r = []) (congrArg not (str_dec rfl e0)) (fun h2 => ?_) (fun h2 => ?_)
      · obtain ⟨d, hd⟩ : ∃ d, r.getLast? = some d := by
          cases q : r.getLast? with
          | none => exact absurd (List.getLast?_eq_none_iff.mp q) h2
          | some d => exact ⟨d, rfl⟩
        refine ⟨_, rfl, _, rfl, _, _, d, rfl, rfl, (by rw [T_len]; exact big2000 (by omega)), (by rw [T_cps]; exact atI_neg1 hd), rfl, _, rfl, ?_⟩
        refine ite_d (c := [d] = [32]) (str_dec rfl e32) (fun h3 => ?_) (fun h3 => ?_)
        · have h3' : d = 32 := by simpa using h3
          refine ⟨_, rfl, _, rfl, _, rfl, r, rfl, big2000 (by omega), ?_⟩
          have e : cutL r none (some (-1)) = trim r := by
            unfold trim
            rw [if_pos ⟨h2, by rw [hd, h3']⟩]
            unfold cutL
            have e1 : HT.sIx r.length 0 none = 0 := rfl
            have e2 : HT.sIx r.length r.length (some (-1)) = r.length - 1 := by
              show (if (-1 : Int) < 0 then ((-1 : Int) + (r.length : Int)).toNat else min (-1 : Int).toNat r.length) = r.length - 1
              rw [if_pos (by decide)]; omega
            rw [e1, e2, List.drop_zero, Nat.sub_zero, List.dropLast_eq_take]
          rw [show (-(1 : Int)) = -1 from rfl, e]
          exact k
        · refine ⟨_, rfl, ?_⟩
          have e : trim r = r := by
            unfold trim
            rw [if_neg]
            intro z
            rw [hd] at z
            exact h3 (by injection z.2 with z; rw [z])
          rw [e] at k
          exact k
      · refine iteF ⟨_, rfl, ?_⟩
        have e : trim r = r := by
          unfold trim
          rw [if_neg]
          exact fun z => z.1 h2
        rw [e] at k
        exact k
def spCellAt (K : PySem.W.Frag) : Sp := fun vs H Q _ => ∃ (a : Addr) (ns : List Int) (k : Int), vs = [.ref a, .int k] ∧ SqL K H a (ns.map V.int) ∧ ns.length ≤ 1000 ∧ 0 ≤ k ∧ Q (.int (ns.getD k.toNat 0)) H
theorem ok_law_cell_at (Z : Tx K mg f_plain_of f_near_forms f_is_near f_law_cell_at f_law_sign f_law_small f_law_plain f_law_great f_law_bent f_law_near f_law d_plain_of d_near_forms d_is_near d_law_cell_at d_law_sign d_law_small d_law_plain d_law_great d_law_bent d_law_near d_law) : FnOk P w K mg base CX0 1 f_law_cell_at d_law_cell_at ["_law_script", "_law_k"] (spCellAt K) := by
  refine Z.F_law_cell_at.ok sc_law_cell_at (fun vs H Q E h => ?_) (fun cdv A outer s H vs Q E hr h => ?_)
  · obtain ⟨a, ns, k, rfl, _⟩ := h
    rfl
  · obtain ⟨a, ns, k, rfl, hS, hl, h0, hQ⟩ := h
    refine ⟨_, (pss_cons (ps_if (pt_cmpR op_lt (pv 1) (pe_callB call_len_seq (by rfl) Z.z_len boot_len (pa_cons (pv 0) pa_nil)) (nomark _)) (pss_one (ps_ret (pe_ix ix_list (pv 0) (pv 1) (fun _ _ => rfl)))) pss_nil)
      (pss_one (ps_ret pe_int))), ?_⟩
    refine ⟨_, rfl, _, rfl, a, _, rfl, .inl hS, _, _, rfl, rfl, _, rfl, ?_⟩
    refine ite_d (c := k < ((ns.map V.int).length : Int)) rfl (fun h => ?_) (fun h => ?_)
    · rw [List.length_map] at h
      have hk : k.toNat < ns.length := by omega
      have e : k = ((k.toNat : Nat) : Int) := by omega
      refine ⟨_, rfl, _, rfl, a, _, k, V.int (ns.getD k.toNat 0), rfl, rfl, hS, ?_, hQ⟩
      have := atI_nat (xs := ns.map V.int) (j := k.toNat) (v := V.int (ns.getD k.toNat 0)) (by rw [List.getElem?_map, List.getD_eq_getElem?_getD]; simp [hk])
      rw [← e] at this
      exact this
    · rw [List.length_map] at h
      have e : ns.getD k.toNat 0 = 0 := by
        rw [List.getD_eq_getElem?_getD, List.getElem?_eq_none (by omega)]; rfl
      rw [e] at hQ
      exact hQ
def spGreat : Sp := fun vs H Q _ => ∃ l i, vs = [.str (T l), .int i] ∧ Asc 100 l ∧ ∀ m, Asc 100 m → Q (.str (T m)) H
theorem ok_law_great (Z : Tx K mg f_plain_of f_near_forms f_is_near f_law_cell_at f_law_sign f_law_small f_law_plain f_law_great f_law_bent f_law_near f_law d_plain_of d_near_forms d_is_near d_law_cell_at d_law_sign d_law_small d_law_plain d_law_great d_law_bent d_law_near d_law) : FnOk P w K mg base CX0 1 f_law_great d_law_great ["_law_text", "_law_cell"] spGreat := by
  refine Z.F_law_great.ok sc_law_great (fun vs H Q E h => ?_) (fun cdv A outer s H vs Q E hr h => ?_)
  · obtain ⟨l, i, rfl, _⟩ := h
    rfl
  · obtain ⟨l, i, rfl, A1, k⟩ := h
    refine ⟨_, (pss_cons (ps_set (i := 2) sc_law_great.nd rfl (Or.inl rfl) pe_str)
      (pss_cons (ps_set (i := 3) sc_law_great.nd rfl (Or.inl rfl) (pe_op op_add (pe_op op_mod (pv 1) pe_int) pe_int))
      (pss_cons (ps_for PassesOwn.never rfl (pi_str (pv 0)) (pg_name (i := 4) sc_law_great.nd rfl (Or.inl rfl)) (pss_cons (ps_set (i := 3) sc_law_great.nd rfl (Or.inl rfl) (pe_op op_mod (pe_op op_mul (pv 3) pe_int) pe_int))
      (pss_cons (ps_set (i := 5) sc_law_great.nd rfl (Or.inl rfl) (pe_bm F.plainAttrs_str F.slot_str_find F.type_str_find mt_find pe_str (pa_cons (pv 4) pa_nil)))
      (pss_cons (ps_if (pw_and (pt_cmpR op_ge (pv 5) pe_int (nomark _)) (pw_and1 (pt_cmpR op_eq (pe_op op_mod (pv 3) pe_int) pe_int (nomark _)))).pt (pss_one (ps_set (i := 4) sc_law_great.nd rfl (Or.inl rfl) (pe_ix ix_str pe_str (pv 5) (fun _ _ => rfl)))) pss_nil)
      (pss_one (ps_set (i := 2) sc_law_great.nd rfl (Or.inl rfl) (pe_op op_add_str (pv 2) (pv 4))))))))
      (pss_one (ps_ret (pv 2)))))), ?_⟩
    have e0 : ("" : Str) = T [] := by decide +kernel
    have hl := A1.len
    refine ⟨_, rfl, _, _, rfl, rfl, (by show (0 : Int) < 4294967311; decide), _, _, rfl, rfl, ?_⟩
    refine ⟨_, rfl, _, rfl, for_str (z := l) (fun j σ H' => H' = H ∧ ∃ m n v4 v5, σ = [some (.str (T l)), some (.int i), some (.str (T m)), some (.int n), v4, v5] ∧ Asc j m)
      ⟨rfl, [], _, none, none, by rw [← e0]; rfl, Asc.nil _⟩ ?_ ?_⟩
    · rintro j c σ H' hc ⟨rfl, m, n, v4, v5, rfl, A2⟩
      have hj : j < 100 := Nat.lt_of_lt_of_le (List.getElem?_eq_some_iff.mp hc).1 hl
      have hm := A2.len
      have hc1 : c < 128 := A1.lt c (List.mem_of_getElem? hc)
      have hz : ∀ d, (T m).length + (T [d]).length ≤ sizeLine := fun d => by rw [T_len, T_len]; exact big2000 (by simp; omega)
      have ef := find_dn c hc1
      rw [← dn_str] at ef
      refine ⟨_, rfl, _, _, rfl, rfl, .inr ⟨by decide, by decide⟩, _, _, rfl, rfl, (by show (0 : Int) < 4294967311; decide), ?_⟩
      refine ⟨rfl, _, rfl, _, _, rfl, rfl, ?_⟩
      rw [ef]
      (try dsimp only [gName])
      refine seq_join (fun σ' H2 => H2 = H' ∧ ∃ d, d < 128 ∧ ∃ n v5, σ' = [some (.str (T l)), some (.int i), some (.str (T m)), some (.int n), some (.str (T [d])), v5]) (fun N hN => ?_) ?_
      · by_cases hu : 97 ≤ c ∧ c ≤ 122
        · rw [if_pos hu]
          refine ⟨_, rfl, _, _, rfl, rfl, _, rfl, ?_⟩
          rw [decide_eq_true (by omega)]
          refine iteT ?_
          refine ⟨_, rfl, _, _, rfl, rfl, (by show (0 : Int) < 3; decide), rfl, _, rfl, ?_⟩
          refine ite2 (fun _ => ?_) (fun _ => hN _ _ ⟨rfl, c, hc1, _, _, rfl⟩)
          refine ⟨_, rfl, _, (c : Int) - 97, c - 32, rfl, rfl, (by decide +kernel), ?_, hN _ _ ⟨rfl, c - 32, by omega, _, _, rfl⟩⟩
          rw [up_str, T_cps]
          have e : (c : Int) - 97 = ((c - 97 : Nat) : Int) := by omega
          rw [e]
          refine atI_nat ?_
          unfold up
          rw [List.getElem?_map, List.getElem?_range (by omega)]
          show some (65 + (c - 97)) = some (c - 32)
          congr 1; omega
        · rw [if_neg hu]
          refine ⟨_, rfl, _, _, rfl, rfl, _, rfl, ?_⟩
          exact iteF (iteF (hN _ _ ⟨rfl, c, hc1, _, _, rfl⟩))
      rintro σ' H2 ⟨rfl, d, hd, n, v5, rfl⟩
      exact ⟨_, rfl, _, rfl, _, _, rfl, rfl, hz d, rfl, m ++ [d], _, _, _, by rw [← T_app]; rfl, A2.snoc hd⟩
    · rintro σ H' ⟨rfl, m, n, v4, v5, rfl, A2⟩
      exact ⟨_, rfl, k m (A2.mono hl)⟩
def spBent : Sp := fun vs H Q _ => ∃ l i, vs = [.str (T l), .int i] ∧ Asc 98 l ∧ ∀ m, Asc (l.length + 2) m → Q (.str (T m)) H
theorem ok_law_bent (Z : Tx K mg f_plain_of f_near_forms f_is_near f_law_cell_at f_law_sign f_law_small f_law_plain f_law_great f_law_bent f_law_near f_law d_plain_of d_near_forms d_is_near d_law_cell_at d_law_sign d_law_small d_law_plain d_law_great d_law_bent d_law_near d_law) : FnOk P w K mg base CX0 2 f_law_bent d_law_bent ["_law_text", "_law_cell"] spBent := by
  have G_law_sign : FnOk P w K mg base CX0 1 f_law_sign d_law_sign ["_law_cell"] spSign := ok_law_sign Z
  refine Z.F_law_bent.ok sc_law_bent (fun vs H Q E h => ?_) (fun cdv A outer s H vs Q E hr h => ?_)
  · obtain ⟨l, i, rfl, _⟩ := h
    rfl
  · obtain ⟨l, z, rfl, A1, k⟩ := h
    refine ⟨_, (pss_cons (ps_set (i := 2) sc_law_bent.nd rfl (Or.inl rfl) (pe_op op_mod (pe_op op_fdiv (pv 1) pe_int) (pe_op op_add (pe_callB call_len_str (by rfl) Z.z_len boot_len (pa_cons (pv 0) pa_nil)) pe_int)))
      (pss_cons (ps_set (i := 3) sc_law_bent.nd rfl (Or.inl rfl) (pe_call G_law_sign (hr.mono (by decide)) (by rfl) Z.M_law_sign Z.F_law_sign.kp Z.B_law_sign .nil pass0 (pa_cons (pe_op op_fdiv (pv 1) pe_int) pa_nil)))
      (pss_cons (ps_if (pt_cmpR op_eq (pe_op op_mod (pv 1) pe_int) pe_int (nomark _)) (pss_one (ps_ret (pe_op op_add_str (pe_slice sl_str (pv 0) po_none (po_some (pv 2))) (pe_slice sl_str (pv 0) (po_some (pe_op op_add (pv 2) pe_int)) po_none)))) pss_nil)
      (pss_cons (ps_if (pt_cmpR op_eq (pe_op op_mod (pv 1) pe_int) pe_int (nomark _)) (pss_one (ps_ret (pe_op op_add_str (pe_op op_add_str (pe_slice sl_str (pv 0) po_none (po_some (pv 2))) (pv 3)) (pe_slice sl_str (pv 0) (po_some (pe_op op_add (pv 2) pe_int)) po_none)))) pss_nil)
      (pss_cons (ps_if (pt_cmpR op_eq (pe_op op_mod (pv 1) pe_int) pe_int (nomark _)) (pss_one (ps_ret (pe_op op_add_str (pe_op op_add_str (pe_slice sl_str (pv 0) po_none (po_some (pv 2))) (pv 3)) (pe_slice sl_str (pv 0) (po_some (pv 2)) po_none)))) pss_nil)
      (pss_cons (ps_set (i := 4) sc_law_bent.nd rfl (Or.inl rfl) (pe_op op_add_str (pe_slice sl_str (pv 0) (po_some (pe_op op_add (pv 2) pe_int)) (po_some (pe_op op_add (pv 2) pe_int))) (pe_slice sl_str (pv 0) (po_some (pv 2)) (po_some (pe_op op_add (pv 2) pe_int)))))
      (pss_one (ps_ret (pe_op op_add_str (pe_op op_add_str (pe_slice sl_str (pv 0) po_none (po_some (pv 2))) (pv 4)) (pe_slice sl_str (pv 0) (po_some (pe_op op_add (pv 2) pe_int)) po_none)))))))))), ?_⟩
    have hl := A1.len
    have hlm : (T l).length = l.length := T_len l
    have hmz : l.length ≤ sizeLine := big2000 (by omega)
    have hpos : (0 : Int) < ((T l).length : Int) + 1 := by omega
    (try dsimp only [gName])
    refine seq_join (fun σ' H2 => H2 = H ∧ ∃ at0 : Int, 0 ≤ at0 ∧ at0 < ((T l).length : Int) + 1 ∧ σ' = [some (.str (T l)), some (.int z), some (.int at0), none, none]) (fun N hN => ?_) ?_
    · exact ⟨_, rfl, _, _, rfl, rfl, ⟨by decide, by decide⟩, _, rfl, _, rfl, (by rw [hlm]; exact hmz), _, _, rfl, rfl, _, _, rfl, rfl, hpos, hN _ _ ⟨rfl, _, Int.emod_nonneg _ (by omega), Int.emod_lt_of_pos _ hpos, rfl⟩⟩
    rintro σ' H2 ⟨rfl, at0, h0, h1, rfl⟩
    have A0 : ∀ lo hi, Asc 98 (cutL l lo hi) := A1.cut
    have cl : ∀ lo hi, (T (cutL l lo hi)).length ≤ l.length := fun lo hi => by rw [T_len]; exact cutL_len l lo hi
    have t1 : (cutL l none (some at0)).length ≤ at0.toNat := by rw [cutL_take _ h0, List.length_take]; omega
    have d0 : (cutL l (some at0) none).length = l.length - at0.toNat := by rw [cutL_drop _ h0, List.length_drop]
    have d1 : (cutL l (some (at0 + 1)) none).length = l.length - (at0 + 1).toNat := by rw [cutL_drop _ (by omega), List.length_drop]
    have d2 : (cutL l (some (at0 + 2)) none).length = l.length - (at0 + 2).toNat := by rw [cutL_drop _ (by omega), List.length_drop]
    have m1 := cutL_mid l (a := at0 + 1) (b := at0 + 2) (by omega) (by omega)
    have m2 := cutL_mid l (a := at0) (b := at0 + 1) (by omega) (by omega)
    refine ⟨_, rfl, _, _, rfl, rfl, ⟨by decide, by decide⟩, _, rfl, fun c hc => ?_⟩
    have a1 : Asc 1 [c] := ⟨by simpa using hc, by simp⟩
    have fin : ∀ (a b : List Nat), Asc 98 a → Asc 98 b → a.length + b.length ≤ l.length + 2 → Asc (l.length + 2) (a ++ b) := fun a b ha hb h => ⟨(ha.app hb).lt, by rw [List.length_append]; exact h⟩
    have fin3 : ∀ (a b d : List Nat), (∀ x ∈ a, x < 128) → (∀ x ∈ b, x < 128) → (∀ x ∈ d, x < 128) → a.length + b.length + d.length ≤ l.length + 2 → Asc (l.length + 2) (a ++ b ++ d) := fun a b d ha hb hd h =>
      ⟨fun x hx => by
        rcases List.mem_append.mp hx with hx | hx
        · exact (List.mem_append.mp hx).elim (ha x) (hb x)
        · exact hd x hx, by rw [List.length_append, List.length_append]; exact h⟩
    refine ⟨_, rfl, _, _, rfl, rfl, (by show (0 : Int) < 4; decide), rfl, _, rfl, ?_⟩
    refine ite2 (fun _ => ?_) (fun _ => ?_)
    · refine ⟨_, rfl, _, rfl, _, rfl, l, rfl, hmz, _, rfl, _, rfl, _, _, rfl, rfl, _, rfl, l, rfl, hmz, _, _, rfl, rfl, (by have := cl none (some at0); have := cl (some (at0 + 1)) none; exact big2000 (by omega)), ?_⟩
      rw [T_app]
      exact k _ (fin _ _ (A0 _ _) (A0 _ _) (by omega))
    refine ⟨_, rfl, _, _, rfl, rfl, (by show (0 : Int) < 4; decide), rfl, _, rfl, ?_⟩
    refine ite2 (fun _ => ?_) (fun _ => ?_)
    · refine ⟨_, rfl, _, rfl, _, rfl, l, rfl, hmz, _, rfl, _, _, rfl, rfl, (by have := cl none (some at0); rw [T_len [c]]; exact big2000 (by simp; omega)), _, rfl, _, rfl, _, _, rfl, rfl, _, rfl, l, rfl, hmz, _, _, rfl, rfl, ?_, ?_⟩
      · rw [T_app, T_len]; have := cl none (some at0); have := cl (some (at0 + 1)) none; rw [T_len] at *; exact big2000 (by simp; omega)
      · rw [T_app, T_app]
        exact k _ (fin3 _ _ _ (A0 _ _).lt a1.lt (A0 _ _).lt (by simp; omega))
    refine ⟨_, rfl, _, _, rfl, rfl, (by show (0 : Int) < 4; decide), rfl, _, rfl, ?_⟩
    refine ite2 (fun _ => ?_) (fun _ => ?_)
    · refine ⟨_, rfl, _, rfl, _, rfl, l, rfl, hmz, _, rfl, _, _, rfl, rfl, (by have := cl none (some at0); rw [T_len [c]]; exact big2000 (by simp; omega)), _, rfl, _, rfl, _, rfl, l, rfl, hmz, _, _, rfl, rfl, ?_, ?_⟩
      · rw [T_app, T_len]; have := cl none (some at0); have := cl (some at0) none; rw [T_len] at *; exact big2000 (by simp; omega)
      · rw [T_app, T_app]
        exact k _ (fin3 _ _ _ (A0 _ _).lt a1.lt (A0 _ _).lt (by simp; omega))
    refine ⟨_, rfl, _, rfl, _, _, rfl, rfl, _, rfl, _, rfl, _, _, rfl, rfl, _, rfl, l, rfl, hmz, _, rfl, _, rfl, _, rfl, _, rfl, _, _, rfl, rfl, _, rfl, l, rfl, hmz, _, _, rfl, rfl, (by have := cl (some (at0 + 1)) (some (at0 + 2)); have := cl (some at0) (some (at0 + 1)); exact big2000 (by omega)), ?_⟩
    rw [T_app]
    refine ⟨_, rfl, _, rfl, _, rfl, l, rfl, hmz, _, rfl, _, _, rfl, rfl, (by have := cl none (some at0); rw [T_len (_ ++ _), List.length_append]; exact big2000 (by omega)), _, rfl, _, rfl, _, _, rfl, rfl, _, rfl, l, rfl, hmz, _, _, rfl, rfl, ?_, ?_⟩
    · rw [T_app, T_len, List.length_append, List.length_append]; have := cl (some (at0 + 2)) none; exact big2000 (by omega)
    · rw [T_app, T_app]
      refine k _ (fin3 _ _ _ (A0 _ _).lt (fun x hx => (List.mem_append.mp hx).elim ((A0 _ _).lt x) ((A0 _ _).lt x)) (A0 _ _).lt ?_)
      rw [List.length_append]; omega
def spLNear : Sp := fun vs H Q _ => ∃ p q, vs = [.str (T p), .str (T q)] ∧ Asc 1000 p ∧ Asc 1000 q ∧ Q (.bl (near p q)) H
theorem ok_law_near (Z : Tx K mg f_plain_of f_near_forms f_is_near f_law_cell_at f_law_sign f_law_small f_law_plain f_law_great f_law_bent f_law_near f_law d_plain_of d_near_forms d_is_near d_law_cell_at d_law_sign d_law_small d_law_plain d_law_great d_law_bent d_law_near d_law) : FnOk P w K mg base CX0 1 f_law_near d_law_near ["_law_one", "_law_other"] spLNear := by
  refine Z.F_law_near.ok sc_law_near (fun vs H Q E h => ?_) (fun cdv A outer s H vs Q E hr h => ?_)
  · obtain ⟨l, i, rfl, _⟩ := h
    rfl
  · obtain ⟨p, q, rfl, A1, A2, k⟩ := h
    refine ⟨_, (pss_cons (ps_set (i := 2) sc_law_near.nd rfl (Or.inl rfl) pe_int)
      (pss_cons (ps_while PassesOwn.never (pw_and (pt_cmpR op_lt (pv 2) (pe_callB (call_min2 rfl) (by rfl) Z.z_min boot_min (pa_cons (pe_callB call_len_str (by rfl) Z.z_len boot_len (pa_cons (pv 0) pa_nil)) (pa_cons (pe_callB call_len_str (by rfl) Z.z_len boot_len (pa_cons (pv 1) pa_nil)) pa_nil))) (nomark _)) (pw_and1 (pt_cmpR op_eq (pe_ix ix_str (pv 0) (pv 2) (fun _ _ => rfl)) (pe_ix ix_str (pv 1) (pv 2) (fun _ _ => rfl)) (nomark _)))).pt (pss_one (ps_set (i := 2) sc_law_near.nd rfl (Or.inl rfl) (pe_op op_add (pv 2) pe_int))))
      (pss_cons (ps_set (i := 0) sc_law_near.nd rfl (Or.inl rfl) (pe_slice sl_str (pv 0) (po_some (pv 2)) po_none))
      (pss_cons (ps_set (i := 1) sc_law_near.nd rfl (Or.inl rfl) (pe_slice sl_str (pv 1) (po_some (pv 2)) po_none))
      (pss_one (ps_ret (pe_or (pe_cmpR op_eq (pv 0) (pv 1) (nomark _)) (pe_or (pe_cmpR op_eq (pe_slice sl_str (pv 0) (po_some pe_int) po_none) (pv 1) (nomark _)) (pe_or (pe_cmpR op_eq (pv 0) (pe_slice sl_str (pv 1) (po_some pe_int) po_none) (nomark _)) (pe_one (pe_cmpR op_eq (pe_slice sl_str (pv 0) (po_some pe_int) po_none) (pe_slice sl_str (pv 1) (po_some pe_int) po_none) (nomark _)))))))))))), ?_⟩
    have hp := A1.len
    have hq := A2.len
    have zp : p.length ≤ sizeLine := big2000 (by omega)
    have zq : q.length ≤ sizeLine := big2000 (by omega)
    have lp : (T p).length = p.length := T_len p
    have lq : (T q).length = q.length := T_len q
    refine asg_c ?_
    refine seq_join (fun σ' H2 => H2 = H ∧ σ' = [some (.str (T p)), some (.str (T q)), some (.int ((cpl p q : Nat) : Int))]) (fun N hN => ?_) ?_
    · refine while_by2 (fun σ H' => H' = H ∧ ∃ a : Nat, a ≤ p.length ∧ a ≤ q.length ∧ p.take a = q.take a ∧ σ = [some (.str (T p)), some (.str (T q)), some (.int (a : Int))])
        (fun σ _ => match σ with | [_, _, some (.int a)] => p.length - a.toNat | _ => 0) ⟨rfl, 0, Nat.zero_le _, Nat.zero_le _, rfl, rfl⟩ ?_
      rintro n σ H' hn ⟨rfl, a, h1, h2, e, rfl⟩
      have hmin : decide ((a : Int) < if ((T q).length : Int) < ((T p).length : Int) then ((T q).length : Int) else ((T p).length : Int)) = decide (a < p.length ∧ a < q.length) := by
        rw [lp, lq, Bool.eq_iff_iff]; simp only [decide_eq_true_eq]; split <;> omega
      have nx : ∀ x y, p[a]? = some x → q[a]? = some y → decide (V.str (⟨#[x]⟩ : Str) = V.str (⟨#[y]⟩ : Str)) = decide (x = y) := fun x y _ _ => by
        have := str_dec (x := (⟨#[x]⟩ : Str)) (y := (⟨#[y]⟩ : Str)) (a := [x]) (b := [y]) rfl rfl
        rw [this]; simp
      refine cond_and (b1 := decide (a < p.length ∧ a < q.length)) (b2 := decide (p[a]? = q[a]?)) (fun Q hQ => ⟨_, rfl, _, rfl, _, rfl, (by rw [lp]; exact zp), _, rfl, _, rfl, (by rw [lq]; exact zq), _, _, rfl, _, _, rfl, rfl, by dsimp only; rw [hmin]; exact hQ⟩) (fun hb Q hQ => ?_) (fun hb1 hb2 => ?_) (fun hb => ?_)
      · have hb := of_decide_eq_true hb
        have hx : p[a]? = some (p[a]'hb.1) := List.getElem?_eq_getElem hb.1
        have hy : q[a]? = some (q[a]'hb.2) := List.getElem?_eq_getElem hb.2
        refine ⟨_, rfl, _, rfl, _, _, _, rfl, rfl, (by rw [lp]; exact zp), (by rw [T_cps]; exact atI_nat hx), _, rfl, _, rfl, _, _, _, rfl, rfl, (by rw [lq]; exact zq), (by rw [T_cps]; exact atI_nat hy), rfl, ?_⟩
        rw [nx _ _ hx hy]
        rw [hx, hy] at hQ
        simpa using hQ
      · have hb := of_decide_eq_true hb1
        have hxy := of_decide_eq_true hb2
        have e1 : (a : Int) + 1 = ((a + 1 : Nat) : Int) := by omega
        refine while_go ⟨_, rfl, _, _, rfl, rfl, ⟨rfl, a + 1, hb.1, hb.2, ?_, by rw [← e1]; rfl⟩, ?_⟩
        · rw [List.take_add_one, List.take_add_one, e, hxy]
        · rw [hn]
          show p.length - ((a : Int) + 1).toNat < p.length - (a : Int).toNat
          have := hb.1
          omega
      · have e2 : cpl p q = a := cpl_of a p q e h1 h2 (by
          by_cases h : a < p.length ∧ a < q.length
          · right; intro e'; exact hb ⟨decide_eq_true h, decide_eq_true e'⟩
          · exact .inl h)
        exact hN _ _ ⟨rfl, by rw [e2]⟩
    rintro σ' H2 ⟨rfl, rfl⟩
    have hs : near p q = nearD (p.drop (cpl p q)) (q.drop (cpl p q)) := rfl
    rw [hs, ← near_law] at k
    generalize cpl p q = c at k
    refine ⟨_, rfl, _, rfl, _, rfl, p, rfl, zp, _, rfl, _, rfl, _, rfl, q, rfl, zq, ?_⟩
    rw [cutL_drop _ (Int.natCast_nonneg _), cutL_drop _ (Int.natCast_nonneg _), Int.toNat_natCast]
    generalize hF : p.drop c = F at k
    generalize hS : q.drop c = S at k
    have zF : F.length ≤ sizeLine := by rw [← hF, List.length_drop]; exact big2000 (by omega)
    have zS : S.length ≤ sizeLine := by rw [← hS, List.length_drop]; exact big2000 (by omega)
    have c1 : ∀ l : List Nat, cutL l (some 1) none = l.drop 1 := fun l => cutL_drop l (by decide)
    refine ⟨_, rfl, _, rfl, rfl, _, rfl, ?_⟩
    refine ite_d (c := F = S) (T_decide _ _) (fun h => ?_) (fun h => ?_)
    · rw [decide_eq_true h] at k; exact k
    rw [decide_eq_false h, Bool.false_or] at k
    refine ⟨_, rfl, _, rfl, F, rfl, zF, _, rfl, rfl, _, rfl, ?_⟩
    rw [c1]
    refine ite_d (c := F.drop 1 = S) (T_decide _ _) (fun h => ?_) (fun h => ?_)
    · rw [decide_eq_true h] at k; exact k
    rw [decide_eq_false h, Bool.false_or] at k
    refine ⟨_, rfl, _, rfl, _, rfl, S, rfl, zS, rfl, _, rfl, ?_⟩
    rw [c1]
    refine ite_d (c := F = S.drop 1) (T_decide _ _) (fun h => ?_) (fun h => ?_)
    · rw [decide_eq_true h] at k; exact k
    rw [decide_eq_false h, Bool.false_or] at k
    refine ⟨_, rfl, _, rfl, F, rfl, zF, _, rfl, _, rfl, S, rfl, zS, rfl, ?_⟩
    rw [c1, c1, T_decide]
    exact k
theorem ok_law (Z : Tx K mg f_plain_of f_near_forms f_is_near f_law_cell_at f_law_sign f_law_small f_law_plain f_law_great f_law_bent f_law_near f_law d_plain_of d_near_forms d_is_near d_law_cell_at d_law_sign d_law_small d_law_plain d_law_great d_law_bent d_law_near d_law) : FnOk P w K mg base CX0 4 f_law d_law ["_law_script"] (spLaw K) := by
  have G_law_cell_at : FnOk P w K mg base CX0 3 f_law_cell_at d_law_cell_at ["_law_script", "_law_k"] (spCellAt K) := (ok_law_cell_at Z).mono (by decide)
  have G_is_near : FnOk P w K mg base CX0 3 f_is_near d_is_near ["one", "other"] spNear := (ok_is_near Z).mono (by decide)
  have G_law_sign : FnOk P w K mg base CX0 3 f_law_sign d_law_sign ["_law_cell"] spSign := (ok_law_sign Z).mono (by decide)
  have G_law_plain : FnOk P w K mg base CX0 3 f_law_plain d_law_plain ["_law_text"] spLPlain := (ok_law_plain Z).mono (by decide)
  have G_law_great : FnOk P w K mg base CX0 3 f_law_great d_law_great ["_law_text", "_law_cell"] spGreat := (ok_law_great Z).mono (by decide)
  have G_law_bent : FnOk P w K mg base CX0 3 f_law_bent d_law_bent ["_law_text", "_law_cell"] spBent := (ok_law_bent Z).mono (by decide)
  have G_law_near : FnOk P w K mg base CX0 3 f_law_near d_law_near ["_law_one", "_law_other"] spLNear := (ok_law_near Z).mono (by decide)
  refine Z.F_law.ok sc_law (fun vs H Q E h => ?_) (fun cdv A outer s H vs Q E hr h => ?_)
  · obtain ⟨i, ns, rfl, _⟩ := h
    rfl
  · obtain ⟨a, ns, rfl, hS, hlen, k⟩ := h
    refine ⟨_, (pss_cons (ps_set (i := 1) sc_law.nd rfl (Or.inl rfl) pe_str)
      (pss_cons (ps_for PassesOwn.never rfl (pi_list (pe_slice sl_list (pv 0) (po_some pe_int) (po_some pe_int))) (pg_name (i := 2) sc_law.nd rfl (Or.inl rfl)) (pss_cons (ps_set (i := 3) sc_law.nd rfl (Or.inl rfl) (pe_call G_law_sign (hr.mono (by decide)) (by rfl) Z.M_law_sign Z.F_law_sign.kp Z.B_law_sign .nil pass0 (pa_cons (pe_op op_fdiv (pv 2) pe_int) pa_nil)))
      (pss_cons (ps_if (pt_cmpR op_eq (pe_op op_mod (pv 2) pe_int) pe_int (nomark _)) (pss_one (ps_set (i := 3) sc_law.nd rfl (Or.inl rfl) pe_str)) pss_nil)
      (pss_cons (ps_if (pt_cmpR op_gt (pe_op op_mod (pv 2) pe_int) pe_int (nomark _)) (pss_one (ps_set (i := 3) sc_law.nd rfl (Or.inl rfl) (pe_ix ix_str pe_str (pe_op op_mod (pe_op op_fdiv (pv 2) pe_int) pe_int) (fun _ _ => rfl)))) pss_nil)
      (pss_one (ps_set (i := 1) sc_law.nd rfl (Or.inl rfl) (pe_op op_add_str (pv 1) (pv 3))))))))
      (pss_cons (ps_set (i := 4) sc_law.nd rfl (Or.inl rfl) (pe_call G_law_cell_at (hr.mono (by decide)) (by rfl) Z.M_law_cell_at Z.F_law_cell_at.kp Z.B_law_cell_at .nil pass0 (pa_cons (pv 0) (pa_cons pe_int pa_nil))))
      (pss_cons (ps_set (i := 5) sc_law.nd rfl (Or.inl rfl) (pv 1))
      (pss_cons (ps_for PassesOwn.never rfl (pi_range1 (by rfl) Z.z_range (pa_cons (pe_op op_mod (pv 4) pe_int) pa_nil)) (pg_name (i := 6) sc_law.nd rfl (Or.inl rfl)) (pss_one (ps_set (i := 5) sc_law.nd rfl (Or.inl rfl) (pe_call G_law_bent (hr.mono (by decide)) (by rfl) Z.M_law_bent Z.F_law_bent.kp Z.B_law_bent .nil pass0 (pa_cons (pv 5) (pa_cons (pe_call G_law_cell_at (hr.mono (by decide)) (by rfl) Z.M_law_cell_at Z.F_law_cell_at.kp Z.B_law_cell_at .nil pass0 (pa_cons (pv 0) (pa_cons (pe_op op_add pe_int (pv 6)) pa_nil))) pa_nil))))))
      (pss_cons (ps_set (i := 1) sc_law.nd rfl (Or.inl rfl) (pe_call G_law_great (hr.mono (by decide)) (by rfl) Z.M_law_great Z.F_law_great.kp Z.B_law_great .nil pass0 (pa_cons (pv 1) (pa_cons (pe_op op_fdiv (pv 4) pe_int) pa_nil))))
      (pss_cons (ps_set (i := 5) sc_law.nd rfl (Or.inl rfl) (pe_call G_law_great (hr.mono (by decide)) (by rfl) Z.M_law_great Z.F_law_great.kp Z.B_law_great .nil pass0 (pa_cons (pv 5) (pa_cons (pe_op op_fdiv (pv 4) pe_int) pa_nil))))
      (pss_cons (ps_set (i := 7) sc_law.nd rfl (Or.inl rfl) (pe_call G_law_near (hr.mono (by decide)) (by rfl) Z.M_law_near Z.F_law_near.kp Z.B_law_near .nil pass0 (pa_cons (pe_call G_law_plain (hr.mono (by decide)) (by rfl) Z.M_law_plain Z.F_law_plain.kp Z.B_law_plain .nil pass0 (pa_cons (pv 1) pa_nil)) (pa_cons (pe_call G_law_plain (hr.mono (by decide)) (by rfl) Z.M_law_plain Z.F_law_plain.kp Z.B_law_plain .nil pass0 (pa_cons (pv 5) pa_nil)) pa_nil))))
      (pss_cons (ps_for PassesOwn.never rfl (pi_list (pe_lst (pa_cons (pe_call G_is_near (hr.mono (by decide)) (by rfl) Z.M_is_near Z.F_is_near.kp Z.B_is_near .nil pass0 (pa_cons (pv 1) (pa_cons (pv 5) pa_nil))) (pa_cons (pe_call G_is_near (hr.mono (by decide)) (by rfl) Z.M_is_near Z.F_is_near.kp Z.B_is_near .nil pass0 (pa_cons (pv 5) (pa_cons (pv 1) pa_nil))) pa_nil)))) (pg_name (i := 8) sc_law.nd rfl (Or.inl rfl)) (pss_one (ps_if (pw_or (pt_not (pt_val (pe_callB call_isi_bool_bool (by rfl) Z.z_isinstance boot_isinstance (pa_cons (pv 8) (pa_cons (pe_bltn (v := .ty "bool") (by rfl) Z.z_bool boot_bool rfl) pa_nil))))) (pw_or1 (pt_cmpR op_ne (pv 8) (pv 7) (nomark _)))).pt (pss_one (ps_ret pe_bl)) pss_nil)))
      (pss_one (ps_ret (pe_cmpR op_isC (pe_call G_is_near (hr.mono (by decide)) (by rfl) Z.M_is_near Z.F_is_near.kp Z.B_is_near .nil pass0 (pa_cons (pv 1) (pa_cons (pv 1) pa_nil))) pe_bl (nomark _))))))))))))), ?_⟩
    have e32 : (" " : Str) = T [32] := by decide +kernel
    have e0 : ("" : Str) = T [] := by decide +kernel
    have l26 : ("abcdefghijklmnopqrstuvwxyz" : Str).cps.toList.length = 26 := by decide +kernel
    have e26 : ∀ c ∈ ("abcdefghijklmnopqrstuvwxyz" : Str).cps.toList, c < 128 := by decide +kernel
    refine ⟨_, rfl, _, rfl, _, rfl, a, _, rfl, hS, fun p hp => ⟨p, rfl, ⟨_, SqL.of upd_same⟩, ?_⟩⟩
    generalize hcut : cutV (ns.map V.int) (some 3) (some 43) = CUT
    have hcl : CUT.length ≤ 43 := by
      rw [← hcut]; unfold cutV
      rw [List.length_take]
      have : HT.sIx (ns.map V.int).length (ns.map V.int).length (some 43) = min 43 (ns.map V.int).length := HT.sIx_nat _ _ 43
      rw [this]; omega
    have s0 : Same H (upd H p (.lst CUT)) := Same.upd hp
    refine for_list (K := K) (a := p) (xs := CUT)
      (fun j σ H' => Same H H' ∧ H' p = some (.lst CUT) ∧ ∃ l v2 v3, Asc j l ∧ σ = [some (.ref a), some (.str (T l)), v2, v3, none, none, none, none, none])
      ⟨s0, upd_same, [], none, none, Asc.nil _, by rw [← e0]; rfl⟩ (fun i σ H' _ h => SqL.of h.2.1) ?_ ?_
    · rintro j y σ H' hi ⟨sm, hp', l, v2, v3, A1, rfl⟩
      obtain ⟨z, rfl⟩ : ∃ z, y = V.int z := by rw [← hcut] at hi; exact int_of_cut hi
      have hj : j < 43 := Nat.lt_of_lt_of_le (List.getElem?_eq_some_iff.mp hi).1 hcl
      have hl := A1.len
      have hz : ∀ c, (T l).length + (T [c]).length ≤ sizeLine := fun c => by rw [T_len, T_len]; exact big2000 (by simp; omega)
      obtain ⟨d, hd, hat, _⟩ := atI_ex (xs := ("abcdefghijklmnopqrstuvwxyz" : Str).cps.toList) (i := z / 5 % 26) (Int.emod_nonneg _ (by decide)) (by rw [l26]; exact Int.emod_lt_of_pos _ (by decide))
      refine ⟨_, rfl, _, _, rfl, rfl, ⟨by decide, by decide⟩, _, rfl, fun c hc => ?_⟩
      (try dsimp only [gName])
      refine seq_join (fun σ' H2 => H2 = H' ∧ ∃ c, c < 128 ∧ σ' = [some (.ref a), some (.str (T l)), some (.int z), some (sV c), none, none, none, none, none]) (fun N hN => ?_) ?_
      · refine ⟨_, rfl, _, _, rfl, rfl, (by show (0 : Int) < 5; decide), rfl, _, rfl, ?_⟩
        refine ite2 (fun _ => ?_) (fun _ => ?_)
        · exact hN _ _ ⟨rfl, 32, by decide, by rw [e32]; rfl⟩
        · exact hN _ _ ⟨rfl, c, hc, rfl⟩
      rintro σ' H2 ⟨rfl, c, hc, rfl⟩
      (try dsimp only [gName])
      refine seq_join (fun σ' H3 => H3 = H2 ∧ ∃ c, c < 128 ∧ σ' = [some (.ref a), some (.str (T l)), some (.int z), some (sV c), none, none, none, none, none]) (fun N hN => ?_) ?_
      · refine ⟨_, rfl, _, _, rfl, rfl, (by show (0 : Int) < 5; decide), _, _, rfl, rfl, _, rfl, ?_⟩
        refine ite2 (fun _ => ?_) (fun _ => ?_)
        · exact ⟨_, rfl, _, _, rfl, rfl, ⟨by decide, by decide⟩, _, _, rfl, rfl, (by show (0 : Int) < 26; decide), _, _, d, rfl, rfl, (by decide +kernel), hat, hN _ _ ⟨rfl, d, e26 d hd, rfl⟩⟩
        · exact hN _ _ ⟨rfl, c, hc, rfl⟩
      rintro σ' H3 ⟨rfl, c, hc, rfl⟩
      exact ⟨_, rfl, _, rfl, _, _, rfl, rfl, hz c, sm, hp', l ++ [c], _, _, A1.snoc hc, by rw [← T_app]; rfl⟩
    · rintro σ H' ⟨sm, hp', l, v2, v3, A1, rfl⟩
      have A43 : Asc 43 l := A1.mono hcl
      have hl43 := A43.len
      refine ⟨_, rfl, a, ns, 0, rfl, sm.seq hS, by omega, by decide, ?_⟩
      generalize ns.getD (0 : Int).toNat 0 = F
      have m0 : 0 ≤ F % 3 := Int.emod_nonneg _ (by decide)
      have m3 : F % 3 < 3 := Int.emod_lt_of_pos _ (by decide)
      refine asg_v rfl ?_
      refine seq_join (fun σ' H2 => H2 = H' ∧ ∃ (o : List Nat) (v6 : Option V), Asc 60 o ∧ σ' = [some (.ref a), some (.str (T l)), v2, v3, some (.int F), some (.str (T o)), v6, none, none]) (fun N hN => ?_) ?_
      · refine ⟨_, rfl, _, _, rfl, rfl, (by show (0 : Int) < 3; decide), F % 3, rfl, by omega, by omega, for_range (fun j σ H2 => H2 = H' ∧ ∃ (o : List Nat) (v6 : Option V), Asc (43 + 2 * j) o ∧ σ = [some (.ref a), some (.str (T l)), v2, v3, some (.int F), some (.str (T o)), v6, none, none])
          ⟨rfl, l, none, A43, rfl⟩ ?_ ?_⟩
        · rintro j σ H2 hj ⟨rfl, o, v6, A2, rfl⟩
          have hj3 : j < 3 := by omega
          have ho := A2.len
          refine ⟨_, rfl, _, rfl, _, rfl, _, _, rfl, rfl, a, ns, _, rfl, sm.seq hS, by omega, by omega, ?_⟩
          refine ⟨o, _, rfl, A2.mono (by omega), fun m A3 => ⟨rfl, m, _, A3.mono (by omega), rfl⟩⟩
        · rintro σ H2 ⟨rfl, o, v6, A2, rfl⟩
          exact hN _ _ ⟨rfl, o, v6, A2.mono (by omega), rfl⟩
      rintro σ1 H1 ⟨rfl, o, v6, A2, rfl⟩
      refine ⟨_, rfl, _, rfl, _, _, rfl, rfl, ⟨by decide, by decide⟩, l, _, rfl, A43.mono (by decide), fun x Ax => ?_⟩
      refine ⟨_, rfl, _, rfl, _, _, rfl, rfl, ⟨by decide, by decide⟩, o, _, rfl, A2.mono (by decide), fun y Ay => ?_⟩
      have Ax1 : Asc 1000 x := Ax.mono (by decide)
      have Ay1 : Asc 1000 y := Ay.mono (by decide)
      refine ⟨_, rfl, x, rfl, Ax1, _, rfl, y, rfl, Ay1, plain x, plain y, rfl, Ax1.plain, Ay1.plain, ?_⟩
      refine ⟨_, rfl, _, rfl, x, y, rfl, Ax, Ay, fun H4 sm4 => ⟨_, rfl, _, rfl, y, x, rfl, Ay, Ax, fun H5 sm5 => ⟨big2000 (by simp), fun q hq => ⟨q, rfl, ⟨_, SqL.of upd_same⟩, ?_⟩⟩⟩⟩
      rw [near_symm (plain y) (plain x)]
      generalize near (plain x) (plain y) = D
      refine for_list (K := K) (a := q) (xs := [.bl D, .bl D])
        (fun j σ H' => H' q = some (.lst [.bl D, .bl D]) ∧ ∃ v8, σ = [some (.ref a), some (.str (T x)), v2, v3, some (.int F), some (.str (T y)), v6, some (.bl D), v8])
        ⟨upd_same, none, rfl⟩ (fun i σ H' _ h => SqL.of h.1) ?_ ?_
      · rintro j yy σ H6 hi ⟨hq6, v8, rfl⟩
        obtain rfl : yy = .bl D := by
          have := List.mem_of_getElem? hi
          simpa using this
        refine ⟨_, rfl, _, rfl, _, rfl, ?_⟩
        refine iteF ?_
        refine ⟨_, rfl, _, rfl, rfl, _, rfl, ?_⟩
        rw [decide_eq_true rfl]
        refine iteF ?_
        exact ⟨hq6, _, rfl⟩
      · rintro σ H6 ⟨hq6, v8, rfl⟩
        refine ⟨_, rfl, _, rfl, x, x, rfl, Ax, Ax, fun H7 sm7 => ?_⟩
        rw [near_self]
        exact ⟨_, _, rfl, rfl, k _⟩
end
theorem all_mk {l : PySem.W.OpenLaw} {w : World} {K : PySem.W.Frag} {h : Heap} {mg : Str → Option Value} {fa g0 g1 g2 g3 g4 g5 g6 g7 g8 g9 g10 : Addr} (X : K.In h) (G : h.Ns mainGlobals mg) (hfa : mg "law" = some (.ref fa))
    {od0 an0 od1 an1 od2 an2 od3 an3 od4 an4 od5 an5 od6 an6 od7 an7 od8 an8 od9 an9 od10 an10 : Option Addr} {sl0 sl1 sl2 sl3 sl4 sl5 sl6 sl7 sl8 sl9 sl10 : Array (Option Value)} {oc0 kV0 dc0 pm0 cd0 ct0 oc1 kV1 dc1 pm1 cd1 ct1 oc2 kV2 dc2 pm2 cd2 ct2 oc3 kV3 dc3 pm3 cd3 ct3 oc4 kV4 dc4 pm4 cd4 ct4 oc5 kV5 dc5 pm5 cd5 ct5 oc6 kV6 dc6 pm6 cd6 ct6 oc7 kV7 dc7 pm7 cd7 ct7 oc8 kV8 dc8 pm8 cd8 ct8 oc9 kV9 dc9 pm9 cd9 ct9 oc10 kV10 dc10 pm10 cd10 ct10 : Value}
    (a0 : PySem.W.nsIn K mainGlobals "plain_of" = some (some (.ref g0))) (l0 : K.lookup g0 = some ⟨oc0, od0, .func (PySem.W.fnOf "plain_of" "plain_of" (defArgs s_plain_of) (defBody s_plain_of) (defScope s_plain_of) .none kV0 dc0 pm0 an0 cd0 ct0), sl0⟩) (c0 : PySem.W.codeIn K cd0 "plain_of" = true) (k0 : PySem.W.keepIn K (.ref g0) = true)
    (a1 : PySem.W.nsIn K mainGlobals "near_forms" = some (some (.ref g1))) (l1 : K.lookup g1 = some ⟨oc1, od1, .func (PySem.W.fnOf "near_forms" "near_forms" (defArgs s_near_forms) (defBody s_near_forms) (defScope s_near_forms) .none kV1 dc1 pm1 an1 cd1 ct1), sl1⟩) (c1 : PySem.W.codeIn K cd1 "near_forms" = true) (k1 : PySem.W.keepIn K (.ref g1) = true)
    (a2 : PySem.W.nsIn K mainGlobals "is_near" = some (some (.ref g2))) (l2 : K.lookup g2 = some ⟨oc2, od2, .func (PySem.W.fnOf "is_near" "is_near" (defArgs s_is_near) (defBody s_is_near) (defScope s_is_near) .none kV2 dc2 pm2 an2 cd2 ct2), sl2⟩) (c2 : PySem.W.codeIn K cd2 "is_near" = true) (k2 : PySem.W.keepIn K (.ref g2) = true)
    (a3 : PySem.W.nsIn K mainGlobals "_law_cell_at" = some (some (.ref g3))) (l3 : K.lookup g3 = some ⟨oc3, od3, .func (PySem.W.fnOf "_law_cell_at" "_law_cell_at" (defArgs s_law_cell_at) (defBody s_law_cell_at) (defScope s_law_cell_at) .none kV3 dc3 pm3 an3 cd3 ct3), sl3⟩) (c3 : PySem.W.codeIn K cd3 "_law_cell_at" = true) (k3 : PySem.W.keepIn K (.ref g3) = true)
    (a4 : PySem.W.nsIn K mainGlobals "_law_sign" = some (some (.ref g4))) (l4 : K.lookup g4 = some ⟨oc4, od4, .func (PySem.W.fnOf "_law_sign" "_law_sign" (defArgs s_law_sign) (defBody s_law_sign) (defScope s_law_sign) .none kV4 dc4 pm4 an4 cd4 ct4), sl4⟩) (c4 : PySem.W.codeIn K cd4 "_law_sign" = true) (k4 : PySem.W.keepIn K (.ref g4) = true)
    (a5 : PySem.W.nsIn K mainGlobals "_law_small" = some (some (.ref g5))) (l5 : K.lookup g5 = some ⟨oc5, od5, .func (PySem.W.fnOf "_law_small" "_law_small" (defArgs s_law_small) (defBody s_law_small) (defScope s_law_small) .none kV5 dc5 pm5 an5 cd5 ct5), sl5⟩) (c5 : PySem.W.codeIn K cd5 "_law_small" = true) (k5 : PySem.W.keepIn K (.ref g5) = true)
    (a6 : PySem.W.nsIn K mainGlobals "_law_plain" = some (some (.ref g6))) (l6 : K.lookup g6 = some ⟨oc6, od6, .func (PySem.W.fnOf "_law_plain" "_law_plain" (defArgs s_law_plain) (defBody s_law_plain) (defScope s_law_plain) .none kV6 dc6 pm6 an6 cd6 ct6), sl6⟩) (c6 : PySem.W.codeIn K cd6 "_law_plain" = true) (k6 : PySem.W.keepIn K (.ref g6) = true)
    (a7 : PySem.W.nsIn K mainGlobals "_law_great" = some (some (.ref g7))) (l7 : K.lookup g7 = some ⟨oc7, od7, .func (PySem.W.fnOf "_law_great" "_law_great" (defArgs s_law_great) (defBody s_law_great) (defScope s_law_great) .none kV7 dc7 pm7 an7 cd7 ct7), sl7⟩) (c7 : PySem.W.codeIn K cd7 "_law_great" = true) (k7 : PySem.W.keepIn K (.ref g7) = true)
    (a8 : PySem.W.nsIn K mainGlobals "_law_bent" = some (some (.ref g8))) (l8 : K.lookup g8 = some ⟨oc8, od8, .func (PySem.W.fnOf "_law_bent" "_law_bent" (defArgs s_law_bent) (defBody s_law_bent) (defScope s_law_bent) .none kV8 dc8 pm8 an8 cd8 ct8), sl8⟩) (c8 : PySem.W.codeIn K cd8 "_law_bent" = true) (k8 : PySem.W.keepIn K (.ref g8) = true)
    (a9 : PySem.W.nsIn K mainGlobals "_law_near" = some (some (.ref g9))) (l9 : K.lookup g9 = some ⟨oc9, od9, .func (PySem.W.fnOf "_law_near" "_law_near" (defArgs s_law_near) (defBody s_law_near) (defScope s_law_near) .none kV9 dc9 pm9 an9 cd9 ct9), sl9⟩) (c9 : PySem.W.codeIn K cd9 "_law_near" = true) (k9 : PySem.W.keepIn K (.ref g9) = true)
    (a10 : PySem.W.nsIn K mainGlobals "law" = some (some (.ref g10))) (l10 : K.lookup g10 = some ⟨oc10, od10, .func (PySem.W.fnOf "law" "law" (defArgs s_law) (defBody s_law) (defScope s_law) .none kV10 dc10 pm10 an10 cd10 ct10), sl10⟩) (c10 : PySem.W.codeIn K cd10 "law" = true) (k10 : PySem.W.keepIn K (.ref g10) = true)
    (y_bool : PySem.W.nsIn K mainGlobals "bool" = some none)
    (y_isinstance : PySem.W.nsIn K mainGlobals "isinstance" = some none)
    (y_len : PySem.W.nsIn K mainGlobals "len" = some none)
    (y_min : PySem.W.nsIn K mainGlobals "min" = some none)
    (y_range : PySem.W.nsIn K mainGlobals "range" = some none)
    (y_set : PySem.W.nsIn K mainGlobals "set" = some none) :
    ∃ fd : FuncData, (∀ (s : Shared) (v : Value), BindsTo s fd ⟨[v], []⟩ [("_law_script", v)]) ∧ ∀ base : Heap, K.In base → base.Ns mainGlobals mg → FnOk l.prog w K mg base CX0 4 fa fd ["_law_script"] (spLaw K) := by
  have e := hfa.symm.trans (PySem.W.mg_of X G a10)
  cases e
  have F0 := fun_mk (st := s_plain_of) l0 c0 k0
  have b0 := F0.binds (ps := ["text"]) fun _ _ _ _ _ _ us hl => match us, hl with | [_], _ => rfl
  have F1 := fun_mk (st := s_near_forms) l1 c1 k1
  have b1 := F1.binds (ps := ["text"]) fun _ _ _ _ _ _ us hl => match us, hl with | [_], _ => rfl
  have F2 := fun_mk (st := s_is_near) l2 c2 k2
  have b2 := F2.binds (ps := ["one", "other"]) fun _ _ _ _ _ _ us hl => match us, hl with | [_, _], _ => rfl
  have F3 := fun_mk (st := s_law_cell_at) l3 c3 k3
  have b3 := F3.binds (ps := ["_law_script", "_law_k"]) fun _ _ _ _ _ _ us hl => match us, hl with | [_, _], _ => rfl
  have F4 := fun_mk (st := s_law_sign) l4 c4 k4
  have b4 := F4.binds (ps := ["_law_cell"]) fun _ _ _ _ _ _ us hl => match us, hl with | [_], _ => rfl
  have F5 := fun_mk (st := s_law_small) l5 c5 k5
  have b5 := F5.binds (ps := ["_law_sign_here"]) fun _ _ _ _ _ _ us hl => match us, hl with | [_], _ => rfl
  have F6 := fun_mk (st := s_law_plain) l6 c6 k6
  have b6 := F6.binds (ps := ["_law_text"]) fun _ _ _ _ _ _ us hl => match us, hl with | [_], _ => rfl
  have F7 := fun_mk (st := s_law_great) l7 c7 k7
  have b7 := F7.binds (ps := ["_law_text", "_law_cell"]) fun _ _ _ _ _ _ us hl => match us, hl with | [_, _], _ => rfl
  have F8 := fun_mk (st := s_law_bent) l8 c8 k8
  have b8 := F8.binds (ps := ["_law_text", "_law_cell"]) fun _ _ _ _ _ _ us hl => match us, hl with | [_, _], _ => rfl
  have F9 := fun_mk (st := s_law_near) l9 c9 k9
  have b9 := F9.binds (ps := ["_law_one", "_law_other"]) fun _ _ _ _ _ _ us hl => match us, hl with | [_, _], _ => rfl
  have F10 := fun_mk (st := s_law) l10 c10 k10
  have b10 := F10.binds (ps := ["_law_script"]) fun _ _ _ _ _ _ us hl => match us, hl with | [_], _ => rfl
  exact ⟨_, fun s v => .of_eq rfl, fun base _ _ => ok_law ⟨F0, b0, PySem.W.mg_of X G a0, F1, b1, PySem.W.mg_of X G a1, F2, b2, PySem.W.mg_of X G a2, F3, b3, PySem.W.mg_of X G a3, F4, b4, PySem.W.mg_of X G a4, F5, b5, PySem.W.mg_of X G a5, F6, b6, PySem.W.mg_of X G a6, F7, b7, PySem.W.mg_of X G a7, F8, b8, PySem.W.mg_of X G a8, F9, b9, PySem.W.mg_of X G a9, F10, b10, PySem.W.mg_of X G a10, PySem.W.mg_none_of X G y_bool, PySem.W.mg_none_of X G y_isinstance, PySem.W.mg_none_of X G y_len, PySem.W.mg_none_of X G y_min, PySem.W.mg_none_of X G y_range, PySem.W.mg_none_of X G y_set⟩⟩
theorem walk {l : PySem.W.OpenLaw} {q : Program} {loose : List Str} {XP : (Str → Option Value) → Heap → Prop} {YP : World → Heap → Prop} {d : DefRec} {K : Params → PySem.W.Frag} (hn : l.most = some 63) (hdf : d.params.defaults = [])
    (hY : ∀ (w : World) (h : Heap), YP w h → (K w.params).In h)
    (F : ∀ (w : World) (mg : Str → Option Value) (fa : Addr) (h : Heap), (K w.params).In h → h.Ns mainGlobals mg → mg d.name = some (.ref fa) →
      ∃ fd : FuncData, (∀ (s : Shared) (u : Value), BindsTo s fd ⟨[u], []⟩ [("_law_script", u)]) ∧ ∀ base : Heap, (K w.params).In base → base.Ns mainGlobals mg → FnOk l.prog w (K w.params) mg base CX0 4 fa fd ["_law_script"] (spLaw (K w.params))) :
    PySem.W.WalkO q loose XP YP l.row.toRowW d [] (fun f vs => PySem.call f vs) :=
  L2.walk_of (n := 63) (k := 4) (x := "_law_script") (CX := fun _ => CX0) (sp := fun w => spLaw (K w.params)) hn (by decide) hdf ⟨rfl, by decide, by decide⟩ hY F (fun _ _ a ns hl _ hS => ⟨a, ns, rfl, hS, hl, fun _ => rfl⟩) fun _ _ _ _ _ z => z
end My
open PySem PySem.W PyProof.Rows
set_option maxRecDepth 100000 in
set_option maxHeartbeats 0 in
theorem PySem.Challenge.cw_folk_k06_near_texts_holds : PySem.Challenge.rw_folk_k06_near_texts.Holds := by
  w_on; o_law; k_head; (case hw => w_witness2)
  k_fill
  refine My.walk (l := PySem.Challenge.rw_folk_k06_near_texts) rfl rfl (fun w h Y => PySem.W.kIn_of Y) ?F
  case F =>
    intro w mg fa h KX G hmg
    refine' My.all_mk KX G hmg ?a0 ?l0 ?c0 ?k0 ?a1 ?l1 ?c1 ?k1 ?a2 ?l2 ?c2 ?k2 ?a3 ?l3 ?c3 ?k3 ?a4 ?l4 ?c4 ?k4 ?a5 ?l5 ?c5 ?k5 ?a6 ?l6 ?c6 ?k6 ?a7 ?l7 ?c7 ?k7 ?a8 ?l8 ?c8 ?k8 ?a9 ?l9 ?c9 ?k9 ?a10 ?l10 ?c10 ?k10 ?y_bool ?y_isinstance ?y_len ?y_min ?y_range ?y_set
    (case a0 => k_is)
    (case l0 => k_is)
    (case c0 => k_is)
    (case k0 => k_is)
    (case a1 => k_is)
    (case l1 => k_is)
    (case c1 => k_is)
    (case k1 => k_is)
    (case a2 => k_is)
    (case l2 => k_is)
    (case c2 => k_is)
    (case k2 => k_is)
    (case a3 => k_is)
    (case l3 => k_is)
    (case c3 => k_is)
    (case k3 => k_is)
    (case a4 => k_is)
    (case l4 => k_is)
    (case c4 => k_is)
    (case k4 => k_is)
    (case a5 => k_is)
    (case l5 => k_is)
    (case c5 => k_is)
    (case k5 => k_is)
    (case a6 => k_is)
    (case l6 => k_is)
    (case c6 => k_is)
    (case k6 => k_is)
    (case a7 => k_is)
    (case l7 => k_is)
    (case c7 => k_is)
    (case k7 => k_is)
    (case a8 => k_is)
    (case l8 => k_is)
    (case c8 => k_is)
    (case k8 => k_is)
    (case a9 => k_is)
    (case l9 => k_is)
    (case c9 => k_is)
    (case k9 => k_is)
    (case a10 => k_is)
    (case l10 => k_is)
    (case c10 => k_is)
    (case k10 => k_is)
    (case y_bool => k_is)
    (case y_isinstance => k_is)
    (case y_len => k_is)
    (case y_min => k_is)
    (case y_range => k_is)
    (case y_set => k_is)
