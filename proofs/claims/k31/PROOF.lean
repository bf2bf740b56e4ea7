import PyProof.Rows.All
import Wide.All
import OpenK.AllK
import Wide.FinOn
import Lean
import PyProof.EqAt
import PyProof.EqKinds
import PyProof.TupleCall
import KE.KDictLaws
import KE.KDictList
import KE.KSortTup
import PySem.SetTable
import PyProof.Rows.SeqMore
import PyProof.StrLawsIn
import PyProof.MeetsStr3
import PyProof.Rows.StrSplitMax
import PySem.Challenge.RW_folk_k31_parts_of_a_case
set_option Elab.async false
set_option linter.all false
set_option maxRecDepth 100000
/-! THE HAND LAYER, for ints, bools, texts, own classes, LISTS and tuples (index, slices, in, append, pop ..), calls, loops. Paste it whole ahead of your own text; what your proof does not reach may be deleted. -/
namespace L2
open PySem PySem.Spec PyProof.Rows

/-- a key: an int or a str -/
abbrev Key := Sum Int Str
def keyIs : Key → Value → Bool
  | .inl k, v => Value.isInt k v
  | .inr x, v => Value.isStrOf x v
def keyH (w : World) : Key → Int
  | .inl k => hashInt k
  | .inr x => hashStr w x
theorem keyIs_shape : ∀ {k : Key} {v : Value}, keyIs k v = true → (∃ i t, k = Sum.inl i ∧ v = Value.int i t) ∨ (∃ x t, k = Sum.inr x ∧ v = Value.str x t)
  | .inl i, v, h => by
    obtain ⟨t, e⟩ := Value.isInt_shape (k := i) (v := v) h
    exact .inl ⟨i, t, rfl, e⟩
  | .inr x, v, h => by
    obtain ⟨t, e⟩ := Value.isStrOf_shape (x := x) (v := v) h
    exact .inr ⟨x, t, rfl, e⟩
theorem keyIs_int (i : Int) (t : Tok) : keyIs (.inl i) (.int i t) = true := by simp [keyIs, Value.isInt]
theorem keyIs_str (x : Str) (t : Tok) : keyIs (.inr x) (.str x t) = true := by simp [keyIs, Value.isStrOf]
theorem key_ll (a b : Int) : decide ((Sum.inl a : Key) = Sum.inl b) = (a == b) := by
  by_cases e : a = b
  · subst e; simp
  · have h : ¬ (Sum.inl a : Key) = Sum.inl b := fun q => e (Sum.inl.inj q)
    rw [decide_eq_false h]
    exact (beq_eq_false_iff_ne.mpr e).symm
theorem key_rr (a b : Str) : decide ((Sum.inr a : Key) = Sum.inr b) = decide (a = b) := by
  by_cases e : a = b
  · subst e; simp
  · have h : ¬ (Sum.inr a : Key) = Sum.inr b := fun q => e (Sum.inr.inj q)
    rw [decide_eq_false h, decide_eq_false e]
theorem key_lr (a : Int) (b : Str) : decide ((Sum.inl a : Key) = Sum.inr b) = false := decide_eq_false (fun q => nomatch q)
theorem key_rl (a : Str) (b : Int) : decide ((Sum.inr a : Key) = Sum.inl b) = false := decide_eq_false (fun q => nomatch q)

def mixKind (prog : Program) (w : World) : PySem.KeyKind prog w Key where
  is := keyIs
  hash := keyH w
  inj := fun v a b ha hb => by
    rcases keyIs_shape ha with ⟨i, t, rfl, rfl⟩ | ⟨x, t, rfl, rfl⟩
    · rcases keyIs_shape hb with ⟨j, u, rfl, e⟩ | ⟨y, u, rfl, e⟩
      · injection e with e1 _; rw [e1]
      · exact nomatch e
    · rcases keyIs_shape hb with ⟨j, u, rfl, e⟩ | ⟨y, u, rfl, e⟩
      · exact nomatch e
      · injection e with e1 _; rw [e1]
  byValue := fun k v h => by
    rcases keyIs_shape h with ⟨i, t, rfl, rfl⟩ | ⟨x, t, rfl, rfl⟩ <;> rfl
  pyHash := fun hv h => by
    rcases keyIs_shape hv with ⟨i, t, rfl, rfl⟩ | ⟨x, t, rfl, rfl⟩
    · exact wpAny_pyHash_int h
    · exact wpAny_pyHash_str h
  eqBool := fun hu hv h => by
    rcases keyIs_shape hu with ⟨i, t, rfl, rfl⟩ | ⟨x, t, rfl, rfl⟩
    · rcases keyIs_shape hv with ⟨j, u, rfl, rfl⟩ | ⟨y, u, rfl, rfl⟩
      · rw [key_ll] at h; exact wpAny_eqBool_int h
      · rw [key_lr] at h; exact SeqAt.EqAt.int_str i t y u _ _ _ _ h
    · rcases keyIs_shape hv with ⟨j, u, rfl, rfl⟩ | ⟨y, u, rfl, rfl⟩
      · rw [key_rl] at h; exact SeqAt.EqAt.str_int x t j u _ _ _ _ h
      · rw [key_rr] at h; exact wpAny_eqBool_str h
  «strs» := fun k x t v h => by
    rcases keyIs_shape h with ⟨i, u, rfl, e⟩ | ⟨y, u, rfl, e⟩
    · exact nomatch e
    · injection e with e1 _
      subst e1
      cases v <;> rfl

theorem mixKind_int (prog : Program) (w : World) (i : Int) (t : Tok) : (mixKind prog w).is (.inl i) (.int i t) = true := keyIs_int i t
theorem mixKind_str (prog : Program) (w : World) (x : Str) (t : Tok) : (mixKind prog w).is (.inr x) (.str x t) = true := keyIs_str x t
end L2

namespace L2
open PySem PySem.Spec PyProof.Rows

/-- a value, without the heap -/
inductive V where
  | non | bl (b : Bool) | int (i : Int) | str (x : Str) | byt (b : Array UInt8) | flt (b : UInt64) | ref (a : Addr) | ty (n : String)
  deriving DecidableEq

def RelV : V → Value → Prop
  | .non, u => u = Value.none
  | .bl b, u => u = Value.bool b
  | .int i, u => ∃ t, u = Value.int i t
  | .str x, u => ∃ t, u = Value.str x t
  | .byt b, u => ∃ t, u = Value.bytes b t
  | .flt b, u => ∃ t, u = Value.float b t
  | .ref a, u => u = Value.ref a
  | .ty n, u => u = Value.type n

abbrev Vals : List V → List Value → Prop := Paired RelV
theorem Vals.length {xs : List V} {us : List Value} (r : Vals xs us) : xs.length = us.length := Paired.length r
theorem Vals.get : ∀ {xs : List V} {us : List Value} {i : Nat} {x : V}, Vals xs us → xs[i]? = some x → ∃ u, us[i]? = some u ∧ RelV x u
  | _, _, _, _, .nil, e => by simp at e
  | _, _, 0, _, .cons r _, e => by simp at e; subst e; exact ⟨_, rfl, r⟩
  | _, _, i + 1, x, .cons _ t, e => by
    obtain ⟨u, h1, h2⟩ := Vals.get (i := i) (x := x) t (by simpa using e)
    exact ⟨u, by simpa using h1, h2⟩
theorem Vals.set {x : V} {u : Value} (r : RelV x u) : ∀ {xs : List V} {us : List Value} (i : Nat), Vals xs us → Vals (xs.set i x) (us.set i u)
  | _, _, _, .nil => .nil
  | _, _, 0, .cons _ t => .cons r t
  | _, _, i + 1, .cons q t => .cons q (Vals.set r i t)
theorem Vals.append : ∀ {xs ys : List V} {us ws : List Value}, Vals xs us → Vals ys ws → Vals (xs ++ ys) (us ++ ws)
  | _, _, _, _, .nil, s => s
  | _, _, _, _, .cons r t, s => .cons r (Vals.append t s)
theorem Vals.take : ∀ {xs : List V} {us : List Value} (n : Nat), Vals xs us → Vals (xs.take n) (us.take n)
  | _, _, 0, _ => .nil
  | _, _, _ + 1, .nil => .nil
  | _, _, n + 1, .cons r t => .cons r (Vals.take n t)
theorem Vals.drop : ∀ {xs : List V} {us : List Value} (n : Nat), Vals xs us → Vals (xs.drop n) (us.drop n)
  | _, _, 0, r => r
  | _, _, _ + 1, .nil => .nil
  | _, _, n + 1, .cons _ t => Vals.drop n t
def RelO : Option V → Option Value → Prop
  | some v, some u => RelV v u
  | none, none => True
  | _, _ => False
def KV {κ : Type} : List (κ × V) → List (κ × Value) → Prop := Paired fun (p : κ × V) (q : κ × Value) => p.1 = q.1 ∧ RelV p.2 q.2

/-- a key of a dict (00_mix): an int or a text -/
def kV : Key → V
  | .inl i => .int i
  | .inr x => .str x

/-- what stands at a tracked address -/
inductive HO where
  /-- a list -/
  | lst (xs : List V)
  /-- a tuple (never changes) -/
  | tup (xs : List V)
  /-- a dict whose keys are ints and texts; one whose keys are tuples of ints and texts (the empty one is both) -/
  | dK (kvs : List (Key × V)) | dT (kvs : List (List Key × V))
  /-- a set of ints: its members, its size -/
  | set (S : Int → Bool) (n : Nat)
  /-- an instance of the class at C, its dict at dx, its attributes -/
  | ins (C dx : Addr) (fs : List (Str × V))
  /-- the dict of the instance at x -/
  | own (x : Addr)
  /-- the dict of an exception -/
  | xd (fs : List (Str × V))
  /-- a bound method, f of x -/
  | met (f x : Addr)
  /-- a range object lo, lo + 1, .. below hi -/
  | rng (lo hi : Int)
  /-- a thing that is known to the object (the script; a dict while a loop walks it): read, never written while it is so -/
  | frz (o : Obj) (u : HO)
  /-- a code object's table -/
  | tbl (ps : Array Value)
  /-- any other thing, by what is true of its one object (a def of one's own: SetO a S n := HO.ext fun h => ..) -/
  | ext (φ : Heap → Prop)

abbrev Hp := Addr → Option HO
def upd (H : Hp) (a : Addr) (o : HO) : Hp := fun b => if b = a then some o else H b
theorem upd_same {H : Hp} {a : Addr} {o : HO} : upd H a o a = some o := by unfold upd; rw [if_pos rfl]
theorem upd_ne {H : Hp} {a b : Addr} {o : HO} (h : b ≠ a) : upd H a o b = H b := by unfold upd; rw [if_neg h]
/-- two objects of different content stand apart -/
theorem ne_of {H : Hp} {a b : Addr} {o u : HO} (h : H a = some o) (h' : H b = some u) (d : o ≠ u) : a ≠ b := by
  intro e; subst e; rw [h] at h'; exact d (Option.some.inj h')
theorem ne_of_none {H : Hp} {a b : Addr} {o : HO} (h : H a = some o) (h' : H b = none) : a ≠ b := by
  intro e; subst e; rw [h] at h'; cases h'

section
variable (P : Program) (w : World)
def ObjOk (H : Hp) (h : Heap) (a : Addr) : HO → Prop
  | .lst xs => xs.length ≤ sizeLine ∧ ∃ (its : List Value) (n : Nat), Vals xs its ∧ h.get? a = some { cls := .type "list", data := .seq its.toArray n }
  | .tup xs => xs.length ≤ sizeLine ∧ ∃ its : List Value, Vals xs its ∧ IsTup h a its.toArray
  | .dK kvs => kvs.length ≤ sizeLine ∧ (a == sysModules) = false ∧ ∃ vs, KV kvs vs ∧ h.DictOf (mixKind P w) a vs
  | .dT kvs => kvs.length ≤ sizeLine ∧ (a == sysModules) = false ∧ ∃ xs : List (List Key × Addr × Value),
      Paired (fun (p : List Key × V) (q : List Key × Addr × Value) => p.1 = q.1 ∧ H q.2.1 = some (.tup (p.1.map kV)) ∧ RelV p.2 q.2.2) kvs xs ∧
      ∃ o es ep, h.get? a = some o ∧ o.ExactDict ∧ o.data = .dict es ep ∧ es.toList = xs.map (entryOfKey (tupleKind (mixKind P w))) ∧ (xs.map (·.1)).Nodup
  | .set S n => h.SetOf (intKind P w) a S n
  | .ins C dx fs => H dx = some (.own a) ∧ fs.length ≤ 1000 ∧ dx ≠ a ∧ h.get? a = some (PySem.W.instObj C dx) ∧
      ∃ mA, h.Ns1 dx mA ∧ (∀ f, RelO (fs.lookup f) (mA f)) ∧ PySem.Within mA (fs.map (·.1))
  | .own _ => ∃ o, h.get? a = some o
  | .xd fs => ∃ mA, h.Ns1 a mA ∧ ∀ f, RelO (fs.lookup f) (mA f)
  | .rng lo hi => ∃ t u v, h.get? a = some { cls := .type "range", data := .fields #[.int lo t, .int hi u, .int 1 v] }
  | .frz o u => h.get? a = some o ∧ ObjOk H h a u
  | .tbl ps => h.get? a = some { cls := .none, data := .fields ps }
  | .met f x => h.get? a = some (PySem.W.methodObj (.ref f) (.ref x))
  | .ext φ => φ h ∧ (∃ o, h.get? a = some o) ∧ ∀ h1 h2 : Heap, φ h1 → (∀ o, h1.get? a = some o → h2.get? a = some o) → φ h2
/-- the abstract heap is held -/
def HOk (H : Hp) (h : Heap) : Prop := ∀ a o, H a = some o → ObjOk P w H h a o
end

section
variable {P : Program} {w : World} {H H' : Hp} {h h' : Heap} {a : Addr} {o : HO}
theorem ObjOk.lt (x : ObjOk P w H h a o) : a < h.objs.size := by
  cases o with
  | lst xs => obtain ⟨_, _, _, _, e⟩ := x; exact Heap.lt_size e
  | tup xs => obtain ⟨_, _, _, p⟩ := x; exact p.lt
  | dK kvs => obtain ⟨_, _, _, _, o, _, _, e, _⟩ := x; exact Heap.lt_size e
  | dT kvs => obtain ⟨_, _, _, _, o, _, _, e, _⟩ := x; exact Heap.lt_size e
  | set S n => obtain ⟨o, _, _, _, e, _⟩ := x; exact Heap.lt_size e
  | ins C dx fs => obtain ⟨_, _, _, e, _⟩ := x; exact Heap.lt_size e
  | own y => obtain ⟨_, e⟩ := x; exact Heap.lt_size e
  | xd fs => obtain ⟨_, ⟨_, _, _, e, _⟩, _⟩ := x; exact Heap.lt_size e
  | rng lo hi => obtain ⟨_, _, _, e⟩ := x; exact Heap.lt_size e
  | frz ob u => obtain ⟨e, _⟩ := x; exact Heap.lt_size e
  | tbl ps => exact Heap.lt_size (show h.get? a = some _ from x)
  | met f y => exact Heap.lt_size (show h.get? a = some _ from x)
  | ext φ => obtain ⟨_, ⟨_, e⟩, _⟩ := x; exact Heap.lt_size e
theorem Paired.mapP {α β : Type} {F G : α → β → Prop} : ∀ {l₁ : List α} {l₂ : List β}, Paired F l₁ l₂ → (∀ a b, F a b → G a b) → Paired G l₁ l₂
  | _, _, .nil, _ => .nil
  | _, _, .cons r t, f => .cons (f _ _ r) (Paired.mapP t f)
/-- what an object's description leans on: its own object, its own dict, the tuples -/
theorem ObjOk.stay (x : ObjOk P w H h a o) (k : ∀ b u, (b = a ∨ H b = some (.own a)) → h.get? b = some u → h'.get? b = some u)
    (ho : ∀ b, H b = some (.own a) → H' b = some (.own a)) (ht : ∀ b xs, H b = some (.tup xs) → H' b = some (.tup xs)) : ObjOk P w H' h' a o := by
  induction o with
  | lst xs => obtain ⟨z, its, n, r, e⟩ := x; exact ⟨z, its, n, r, k _ _ (.inl rfl) e⟩
  | tup xs => obtain ⟨z, its, r, ob, e, c⟩ := x; exact ⟨z, its, r, ob, k _ _ (.inl rfl) e, c⟩
  | dK kvs => obtain ⟨z, y, vs, r, ob, es, ep, e, c⟩ := x; exact ⟨z, y, vs, r, ob, es, ep, k _ _ (.inl rfl) e, c⟩
  | dT kvs =>
    obtain ⟨z, y, xs, r, ob, es, ep, e, c⟩ := x
    exact ⟨z, y, xs, Paired.mapP r fun p q z => ⟨z.1, ht _ _ z.2.1, z.2.2⟩, ob, es, ep, k _ _ (.inl rfl) e, c⟩
  | set S n => obtain ⟨ob, es, ep, t, e, c⟩ := x; exact ⟨ob, es, ep, t, k _ _ (.inl rfl) e, c⟩
  | ins C dx fs =>
    obtain ⟨d, z, ne, e, mA, ⟨od, es, ep, e2, c⟩, r⟩ := x
    exact ⟨ho _ d, z, ne, k _ _ (.inl rfl) e, mA, ⟨od, es, ep, k _ _ (.inr d) e2, c⟩, r⟩
  | own y => obtain ⟨ob, e⟩ := x; exact ⟨ob, k _ _ (.inl rfl) e⟩
  | xd fs => obtain ⟨mA, ⟨od, es, ep, e, c⟩, r⟩ := x; exact ⟨mA, ⟨od, es, ep, k _ _ (.inl rfl) e, c⟩, r⟩
  | rng lo hi => obtain ⟨t, u, v, e⟩ := x; exact ⟨t, u, v, k _ _ (.inl rfl) e⟩
  | frz ob u ih => obtain ⟨e, q⟩ := x; exact ⟨k _ _ (.inl rfl) e, ih q⟩
  | tbl ps =>
    have e : h.get? a = some { cls := .none, data := .fields ps } := x
    show h'.get? a = some { cls := .none, data := .fields ps }
    exact k a _ (.inl rfl) e
  | met f y =>
    have e : h.get? a = some (PySem.W.methodObj (.ref f) (.ref y)) := x
    show h'.get? a = some (PySem.W.methodObj (.ref f) (.ref y))
    exact k a _ (.inl rfl) e
  | ext φ => obtain ⟨p, ⟨o, e⟩, st⟩ := x; exact ⟨st _ _ p fun o q => k _ _ (.inl rfl) q, ⟨o, k _ _ (.inl rfl) e⟩, st⟩
theorem HOk.lt (x : HOk P w H h) (e : H a = some o) : a < h.objs.size := (x a o e).lt
theorem HOk.fresh (x : HOk P w H h) (e : h.objs.size ≤ a) : H a = none := by
  cases q : H a with
  | none => rfl
  | some u => exact absurd (Nat.lt_of_lt_of_le (x.lt q) e) (Nat.lt_irrefl _)
/-- every object of the heap is kept -/
theorem HOk.kept (x : HOk P w H h) (k : ∀ b u, h.get? b = some u → h'.get? b = some u) : HOk P w H h' := fun a o e =>
  (x a o e).stay (fun b u _ q => k b u q) (fun _ q => q) fun _ _ q => q
/-- a new object is laid and tracked -/
theorem HOk.laid (x : HOk P w H h) (k : ∀ b u, h.get? b = some u → h'.get? b = some u) (hp : h.objs.size ≤ a) (new : ObjOk P w (upd H a o) h' a o) : HOk P w (upd H a o) h' := fun b u e => by
  have hn := x.fresh hp
  by_cases hb : b = a
  · subst hb; rw [upd_same] at e; cases e; exact new
  · rw [upd_ne hb] at e
    exact (x b u e).stay (fun c v _ q => k c v q) (fun c q => by rw [upd_ne (ne_of_none q hn)]; exact q) fun c xs q => by rw [upd_ne (ne_of_none q hn)]; exact q
end

/-- what may be read as u: it is u, or a known u -/
def Rd (H : Hp) (a : Addr) (u : HO) : Prop := H a = some u ∨ ∃ o, H a = some (.frz o u)
theorem Rd.of {H : Hp} {a : Addr} {u : HO} (h : H a = some u) : Rd H a u := .inl h
theorem Rd.ok {P : Program} {w : World} {H : Hp} {h : Heap} {a : Addr} {u : HO} (r : Rd H a u) (x : HOk P w H h) : ObjOk P w H h a u := by
  rcases r with r | ⟨o, r⟩
  · exact x a u r
  · obtain ⟨_, q⟩ := x a _ r
    exact q
/-- what may be written -/
def Mut : Option HO → Prop
  | some (.lst _) => True
  | some (.dK _) => True
  | some (.dT _) => True
  | some (.set _ _) => True
  | some (.ins _ _ _) => True
  | some (.ext _) => True
  | _ => False
section
variable {P : Program} {w : World} {H : Hp} {h h' : Heap} {x e : Addr} {o' : HO}
/-- the object at e is changed: x itself, or the dict of the instance x -/
theorem HOk.write (ok : HOk P w H h) (mu : Mut (H x)) (he : e = x ∨ H e = some (.own x)) (k : ∀ b u, b ≠ e → h.get? b = some u → h'.get? b = some u) (heo : ∃ u, h'.get? e = some u)
    (new : ObjOk P w (upd H x o') h' x o') : HOk P w (upd H x o') h' := fun b u q => by
  have nown : ∀ c y, H c = some (.own y) → c ≠ x := fun c y r z => by subst z; rw [r] at mu; exact mu
  have ntup : ∀ c xs, H c = some (.tup xs) → c ≠ x := fun c xs r z => by subst z; rw [r] at mu; exact mu
  by_cases hb : b = x
  · subst hb; rw [upd_same] at q; cases q; exact new
  · rw [upd_ne hb] at q
    by_cases hbe : b = e
    · have q' : H b = some (.own x) := by
        rcases he with z | z
        · exact absurd (hbe.trans z) hb
        · rw [hbe]; exact z
      rw [q] at q'; cases q'
      obtain ⟨v, hv⟩ := heo
      exact ⟨v, by rw [hbe]; exact hv⟩
    · refine (ok b u q).stay (fun c v hc r => k c v ?_ r) (fun c r => by rw [upd_ne (nown c b r)]; exact r) fun c xs r => by rw [upd_ne (ntup c xs r)]; exact r
      rcases hc with rfl | hc
      · exact hbe
      · rintro rfl
        rcases he with z | z
        · exact nown c b hc z
        · rw [hc] at z; cases z; exact hb rfl
end

/-! ### kept unless tracked; of the frames at fs (the callers') the slots may change (an exception that passes writes there); of the records at ex (iterators) nothing is said -/
structure Un (fs ex : List Addr) (H H' : Hp) (h h' : Heap) : Prop where
  keep : ∀ b o, h.get? b = some o → H b = none → b ∉ fs → b ∉ ex → h'.get? b = some o
  slot : ∀ b o, h.get? b = some o → H b = none → b ∈ fs → b ∉ ex → ∃ sl, h'.get? b = some { o with slots := sl }
  free : ∀ b o, h.get? b = some o → H b = none → b ∉ ex → H' b = none
  there : ∀ b o, h.get? b = some o → b ∉ ex → ∃ o', h'.get? b = some o'
  tups : ∀ b xs, H b = some (.tup xs) → H' b = some (.tup xs)
  frzs : ∀ b o u, H b = some (.frz o u) → H' b = some (.frz o u)
  tbls : ∀ b ps, H b = some (.tbl ps) → ∃ more, H' b = some (.tbl (ps ++ more))
section
variable {fs fs' ex ex' : List Addr} {H H1 H2 : Hp} {h h1 h2 h' : Heap} {a x e : Addr} {o : HO}
theorem Un.any (u : Un fs ex H H1 h h1) {b : Addr} {ob : Obj} (q : h.get? b = some ob) (n : H b = none) (hx : b ∉ ex) : ∃ sl, h1.get? b = some { ob with slots := sl } := by
  by_cases hb : b ∈ fs
  · exact u.slot b ob q n hb hx
  · exact ⟨ob.slots, u.keep b ob q n hb hx⟩
theorem Un.trans (a : Un fs ex H H1 h h1) (b : Un fs ex H1 H2 h1 h2) : Un fs ex H H2 h h2 where
  keep := fun c ob q n hc hx => b.keep c ob (a.keep c ob q n hc hx) (a.free c ob q n hx) hc hx
  slot := fun c ob q n hc hx => by
    obtain ⟨sl, e1⟩ := a.slot c ob q n hc hx
    obtain ⟨sl', e2⟩ := b.slot c _ e1 (a.free c ob q n hx) hc hx
    exact ⟨sl', e2⟩
  free := fun c ob q n hx => by
    obtain ⟨o', e1⟩ := a.there c ob q hx
    exact b.free c o' e1 (a.free c ob q n hx) hx
  there := fun c ob q hx => by
    obtain ⟨o', e1⟩ := a.there c ob q hx
    exact b.there c o' e1 hx
  tups := fun c xs q => b.tups c xs (a.tups c xs q)
  frzs := fun c ob xs q => b.frzs c ob xs (a.frzs c ob xs q)
  tbls := fun c ps q => by
    obtain ⟨m1, e1⟩ := a.tbls c ps q
    obtain ⟨m2, e2⟩ := b.tbls c _ e1
    exact ⟨m1 ++ m2, by rw [e2, Array.append_assoc]⟩
theorem Un.kept (k : ∀ b u, h.get? b = some u → h'.get? b = some u) : Un fs ex H H h h' :=
  ⟨fun b ob q _ _ _ => k b ob q, fun b ob q _ _ _ => ⟨ob.slots, k b ob q⟩, fun _ _ _ n _ => n, fun b ob q _ => ⟨ob, k b ob q⟩, fun _ _ q => q, fun _ _ _ q => q, fun _ ps q => ⟨#[], by rw [q]; simp⟩⟩
theorem Un.refl : Un fs ex H H h h := Un.kept fun _ _ q => q
theorem Un.laid (k : ∀ b u, h.get? b = some u → h'.get? b = some u) (hp : h.objs.size ≤ a) (hn : H a = none) : Un fs ex H (upd H a o) h h' where
  keep := fun b u q _ _ _ => k b u q
  slot := fun b u q _ _ _ => ⟨u.slots, k b u q⟩
  free := fun b u q n _ => by rw [upd_ne (Nat.ne_of_lt (Nat.lt_of_lt_of_le (Heap.lt_size q) hp))]; exact n
  there := fun b u q _ => ⟨u, k b u q⟩
  tups := fun b xs q => by rw [upd_ne (ne_of_none q hn)]; exact q
  frzs := fun b u xs q => by rw [upd_ne (ne_of_none q hn)]; exact q
  tbls := fun b ps q => ⟨#[], by rw [upd_ne (ne_of_none q hn), q]; simp⟩
theorem Un.write (mu : Mut (H x)) (he : e = x ∨ H e = some (.own x)) (k : ∀ b u, b ≠ e → h.get? b = some u → h'.get? b = some u) (heo : ∃ u, h'.get? e = some u) : Un fs ex H (upd H x o) h h' := by
  have hx : ∀ b, H b = none → b ≠ x := fun b n z => by subst z; rw [n] at mu; exact mu
  have hb : ∀ b, H b = none → b ≠ e := fun b n z => by
    subst z
    rcases he with r | r
    · exact hx b n r
    · rw [n] at r; cases r
  have hm : ∀ b u, H b = some u → ¬ Mut (some u) → b ≠ x := fun b u q nm z => by subst z; rw [q] at mu; exact nm mu
  refine ⟨fun b u q n _ _ => k b u (hb b n) q, fun b u q n _ _ => ⟨u.slots, k b u (hb b n) q⟩, fun b u q n _ => by rw [upd_ne (hx b n)]; exact n, fun b u q _ => ?_,
    fun b xs q => by rw [upd_ne (hm b _ q fun z => z)]; exact q, fun b u xs q => by rw [upd_ne (hm b _ q fun z => z)]; exact q, fun b ps q => ⟨#[], by rw [upd_ne (hm b _ q fun z => z), q]; simp⟩⟩
  by_cases hbe : b = e
  · subst hbe; exact heo
  · exact ⟨u, k b u hbe q⟩
theorem Un.mono (u : Un fs ex H H1 h h1) (hs : ∀ b ∈ fs, b ∈ fs') (hx : ∀ b ∈ ex, b ∈ ex') : Un fs' ex' H H1 h h1 :=
  ⟨fun b ob q n hb he => u.keep b ob q n (fun z => hb (hs b z)) fun z => he (hx b z), fun _ _ q n _ he => u.any q n fun z => he (hx _ z), fun b ob q n he => u.free b ob q n fun z => he (hx b z), fun b ob q he => u.there b ob q fun z => he (hx b z), u.tups, u.frzs, u.tbls⟩
end

/-! ### the heap without what is tracked -/
def trk (h : Heap) (H : Hp) : List Addr := (List.range h.objs.size).filter fun a => (H a).isSome
def hidT (h : Heap) (H : Hp) : Heap := PySem.W.hideAll h (trk h H)
theorem hidT_size (h : Heap) (H : Hp) : (hidT h H).objs.size = h.objs.size := PySem.W.hideAll_size _ _
theorem hidT_get {h : Heap} {H : Hp} {b : Addr} {o : Obj} (e : h.get? b = some o) (n : H b = none) : (hidT h H).get? b = some o :=
  PySem.W.hideAll_get _ e fun hm => by
    have q : (H b).isSome = true := (List.mem_filter.mp hm).2
    rw [n] at q; simp at q
theorem of_hidT {h : Heap} {H : Hp} {b : Addr} {o : Obj} (e : (hidT h H).get? b = some o) : h.get? b = some o ∧ H b = none := by
  have e' : h.get? b = some o := PySem.W.of_hideAll (trk h H) e
  refine ⟨e', ?_⟩
  cases q : H b with
  | none => rfl
  | some x =>
    have hm : b ∈ trk h H := List.mem_filter.mpr ⟨List.mem_range.mpr (Heap.lt_size e'), by simp [q]⟩
    have z : (hidT h H).get? b = none := PySem.W.hideAll_none (trk h H) hm
    rw [z] at e; cases e

/-! ### OpenK's ledger, filled with every new object but one -/
def allNews (g h : Heap) (L : Addr) : List (Addr × Obj) := (List.range h.objs.size).filterMap fun a => if a = L ∨ (g.get? a).isSome = true then none else (h.get? a).map fun o => (a, o)
def rest (g h : Heap) (L d : Addr) : List (Addr × Obj) := (allNews g h L).filter fun p => decide (p.1 ≠ d)
end L2

namespace L2
open PySem PySem.Spec PyProof.Rows

/-- the module's facts, over the base: the heap at the law's entry without what is tracked there -/
structure Mod (K : PySem.W.Frag) (mg : Str → Option Value) (base : Heap) : Prop where
  kin : K.In base
  glob : base.Ns mainGlobals mg
  blt : ∃ mb, base.Ns builtinsNs mb ∧ ∀ x : Str, x ≠ "__name__" → mb x = bootBuiltins x
  nolimit : base.NoLimit

/-- the context: a def's body (or a comprehension's block) running. base: fixed through the whole law; s₀, H₀: the entry; outer: the frames whose slots others may change (a def's callers); stack: all frames that run;
   ex: iterators that were made ahead of the entry and are walked here (a comprehension's); fn: the names whose cells were made at the entry (a def: all; a comprehension's block: its own); calm: not within an except suite; pn: pins that every state bears; xe: what is wanted of an exception that leaves the code -/
structure Cx where
  prog : Program
  w : World
  K : PySem.W.Frag
  mg : Str → Option Value
  base : Heap
  A : Around
  N : List Str
  s₀ : Shared
  H₀ : Hp
  env : Env
  outer : List Env
  stack : List Env
  ex : List Addr
  fn : Str → Bool
  calm : Bool
  pn : List (Addr × Obj)
  xe : Value → Shared → Prop
/-- the callers' frames -/
def frs (l : List Env) : List Addr := l.filterMap (·.frame)
abbrev Cx.fs (X : Cx) : List Addr := frs X.outer

def Vis (sc : Scope) (x : Str) : Prop := sc.names.lookup x = some .local ∨ sc.names.lookup x = some .cell ∨ sc.names.lookup x = some .free
def Loc (sc : Scope) (x : Str) : Prop := sc.names.lookup x = some .local ∨ sc.names.lookup x = some .cell
def Look (env : Env) (h : Heap) (m : Str → Option Value) (x : Str) (u : Value) : Prop :=
  (env.kindOf x = some .local ∧ m x = some u) ∨ ((env.kindOf x = some .cell ∨ env.kindOf x = some .free) ∧ ∃ c, env.cells.lookup x = some c ∧ h.IsCell c (some u))

structure Cx.Ok (X : Cx) : Prop where
  mod : Mod X.K X.mg X.base
  kind : X.env.scope.kind = .function
  glob : X.env.globals = mainGlobals
  blt : X.env.builtins = builtinsNs
  above : X.s₀.heap.objs.size ≤ X.env.locals
  inj : ∀ x y c, X.env.cells.lookup x = some c → X.env.cells.lookup y = some c → x = y
  has : ∀ x, (X.env.kindOf x = some .cell ∨ X.env.kindOf x = some .free) → ∃ c, X.env.cells.lookup x = some c
  cab : ∀ x c, X.fn x = true → X.env.cells.lookup x = some c → X.s₀.heap.objs.size ≤ c
  hd : X.calm = true → X.A.handled = none
  frames : X.A.frames = some X.stack
  stk : X.stack = X.outer ∨ (X.stack = X.env :: X.outer ∧ X.env.frame = some X.env.locals)
  exf : ∀ b ∈ X.ex, b ≠ X.env.locals ∧ ∀ x c, X.env.cells.lookup x = some c → c ≠ b
  bs : ∀ b o, X.base.get? b = some o → X.s₀.heap.get? b = some o ∧ X.H₀ b = none
  bsz : X.base.objs.size ≤ X.s₀.heap.objs.size
  noex : ∀ b o, X.base.get? b = some o → b ∉ X.ex
  exfs : ∀ b ∈ X.ex, b ∉ X.fs
  funs : X.s₀.heap.FunFrames X.base X.outer
  frf : ∀ b ∈ X.fs, X.H₀ b = none

structure Inv (X : Cx) (pins : List (Addr × Obj)) (σ : List (Option V)) (H : Hp) (s : Shared) : Prop where
  ok : X.Ok
  os : s.os = X.s₀.os
  bare : AllBare s.gens
  base : Un X.fs X.ex X.H₀ H X.s₀.heap s.heap
  loc : ∃ m, s.heap.Ns X.env.locals m ∧ ∀ (i : Nat) (x : Str) (v : V), X.N[i]? = some x → σ[i]? = some (some v) → Vis X.env.scope x → ∃ u, RelV v u ∧ Look X.env s.heap m x u
  cell : ∀ x c, X.env.cells.lookup x = some c → ∃ v, s.heap.IsCell c v
  free : H X.env.locals = none
  freeC : ∀ x c, X.env.cells.lookup x = some c → H c = none
  pin : ∀ p ∈ X.pn ++ pins, s.heap.get? p.1 = some p.2 ∧ H p.1 = none ∧ p.1 ≠ X.env.locals ∧ p.1 ∉ X.fs ∧ ∀ v, p.2.data ≠ .cell v
  hok : HOk X.prog X.w H s.heap
  len : σ.length = X.N.length

section
variable {X : Cx} {pins : List (Addr × Obj)} {σ : List (Option V)} {H H' : Hp} {s : Shared} {h' : Heap}

theorem Cx.Ok.nofr (ok : X.Ok) {b : Addr} {o : Obj} (e : X.base.get? b = some o) : b ∉ X.fs := fun hb => by
  have := (ok.funs.mem hb).1
  rw [e] at this; cases this
theorem Inv.bs (I : Inv X pins σ H s) : ∀ b o, X.base.get? b = some o → s.heap.get? b = some o ∧ H b = none := fun b o e =>
  ⟨I.base.keep b o (I.ok.bs b o e).1 (I.ok.bs b o e).2 (I.ok.nofr e) (I.ok.noex b o e), I.base.free b o (I.ok.bs b o e).1 (I.ok.bs b o e).2 (I.ok.noex b o e)⟩
theorem Inv.bk (I : Inv X pins σ H s) : ∀ b o, X.base.get? b = some o → s.heap.get? b = some o := fun b o e => (I.bs b o e).1
theorem Inv.mod (I : Inv X pins σ H s) : Mod X.K X.mg X.base := I.ok.mod
theorem Inv.kIn (I : Inv X pins σ H s) : X.K.In s.heap := I.ok.mod.kin.keeps I.bk
theorem Inv.nolimit (I : Inv X pins σ H s) : s.heap.NoLimit := I.ok.mod.nolimit.keeps I.bk
/-- the frame over the base: for OpenK's rules (K.In X.base is I.mod.kin) -/
theorem Inv.fr (I : Inv X pins σ H s) : ∃ m, Fr X.base X.env.locals s.heap m :=
  let ⟨m, hn, _⟩ := I.loc
  ⟨m, hn, I.bk, Nat.le_trans I.ok.bsz I.ok.above⟩
theorem Inv.lt (I : Inv X pins σ H s) : X.env.locals < s.heap.objs.size := let ⟨_, hn, _⟩ := I.loc; hn.lt
theorem Inv.sz (I : Inv X pins σ H s) : X.s₀.heap.objs.size ≤ s.heap.objs.size := Nat.le_trans I.ok.above (Nat.le_of_lt I.lt)
theorem Inv.nofs (I : Inv X pins σ H s) {a : Addr} (h : s.heap.objs.size ≤ a) : a ∉ X.fs := fun hb => by
  obtain ⟨_, o, ho, _⟩ := I.ok.funs.mem hb
  exact absurd (Nat.lt_of_lt_of_le (Heap.lt_size ho) (Nat.le_trans I.sz h)) (Nat.lt_irrefl _)
theorem Inv.cne (I : Inv X pins σ H s) : ∀ x c, X.env.cells.lookup x = some c → c ≠ X.env.locals := fun x c e z => by
  obtain ⟨v, o, ho, hd⟩ := I.cell x c e
  obtain ⟨m, ⟨o', es, ep, ho', hd', _⟩, _⟩ := I.loc
  rw [z, ho'] at ho; cases ho; rw [hd'] at hd; cases hd
theorem Inv.funs (I : Inv X pins σ H s) : s.heap.FunFrames X.base X.outer := by
  have all : ∀ (l : List Env), (∀ b ∈ frs l, b ∈ X.fs) → X.s₀.heap.FunFrames X.base l → s.heap.FunFrames X.base l := by
    intro l
    induction l with
    | nil => intro _ _; trivial
    | cons env r ih =>
      intro hs hl
      obtain ⟨hk, ⟨L, o, hf, hn, ho, hd⟩, hr⟩ := hl
      have hL : L ∈ X.fs := hs L (by unfold frs; rw [List.filterMap_cons, hf]; exact List.mem_cons_self)
      obtain ⟨sl, e⟩ := I.base.slot L o ho (I.ok.frf L hL) hL fun z => I.ok.exfs L z hL
      exact ⟨hk, ⟨L, _, hf, hn, e, hd⟩, ih (fun b hb => hs b (by unfold frs; rw [List.filterMap_cons, hf]; exact List.mem_cons_of_mem _ hb)) hr⟩
  exact all X.outer (fun _ hb => hb) I.ok.funs

/-- the frames that run, for a call -/
theorem Inv.stack (I : Inv X pins σ H s) : s.heap.FunFrames X.base X.stack := by
  rcases I.ok.stk with e | ⟨e, hf⟩
  · rw [e]; exact I.funs
  · rw [e]
    obtain ⟨m, hn, _⟩ := I.loc
    refine .cons (by rw [I.ok.kind]; decide) hf hn ?_ I.funs
    exact Heap.get?_none_of_le (Nat.le_trans I.ok.bsz I.ok.above)
theorem Inv.stkSub (I : Inv X pins σ H s) : ∀ b ∈ frs X.stack, b ∈ X.env.locals :: X.fs := fun b hb => by
  rcases I.ok.stk with e | ⟨e, hf⟩
  · rw [e] at hb; exact List.mem_cons_of_mem _ hb
  · rw [e] at hb
    unfold frs at hb
    rw [List.filterMap_cons, hf] at hb
    exact hb
theorem Inv.stkFree (I : Inv X pins σ H s) : ∀ b ∈ frs X.stack, H b = none := fun b hb => by
  rcases List.mem_cons.mp (I.stkSub b hb) with e | hb
  · rw [e]; exact I.free
  · obtain ⟨_, o, ho, _⟩ := I.ok.funs.mem hb
    exact I.base.free b o ho (I.ok.frf b hb) fun z => I.ok.exfs b z hb

/-- THE STEP: the untracked objects but the frame and the records at ch are kept (the callers' frames up to slots), the frame's map is kept, the new abstract heap is held -/
theorem Inv.step {g' : Array GenState} {t' : Nat} {d' : Drawn} {ch : List Addr} (I : Inv X pins σ H s)
    (hch : ∀ b ∈ ch, (b ∈ X.ex ∨ X.s₀.heap.objs.size ≤ b) ∧ b ≠ X.env.locals ∧ (∀ x c, X.env.cells.lookup x = some c → c ≠ b) ∧ ∀ p ∈ X.pn ++ pins, p.1 ≠ b)
    (keep : ∀ b o, b ≠ X.env.locals → b ∉ X.fs → b ∉ ch → s.heap.get? b = some o → H b = none → h'.get? b = some o)
    (slot : ∀ b o, b ≠ X.env.locals → b ∈ X.fs → b ∉ ch → s.heap.get? b = some o → H b = none → ∃ sl, h'.get? b = some { o with slots := sl }) (free : ∀ b o, b ∉ ch → s.heap.get? b = some o → H b = none → H' b = none)
    (there : ∀ b o, b ∉ ch → s.heap.get? b = some o → ∃ o', h'.get? b = some o')
    (tups : ∀ b xs, H b = some (.tup xs) → H' b = some (.tup xs)) (frzs : ∀ b o u, H b = some (.frz o u) → H' b = some (.frz o u)) (tbls : ∀ b ps, H b = some (.tbl ps) → ∃ more, H' b = some (.tbl (ps ++ more)))
    (ns : ∀ m, s.heap.Ns X.env.locals m → h'.Ns X.env.locals m) (hok : HOk X.prog X.w H' h') (hg : AllBare g') :
    Inv X pins σ H' { s with heap := h', gens := g', drawn := d', toks := t' } := by
  have neL : ∀ b o, X.s₀.heap.get? b = some o → b ≠ X.env.locals := fun b o e => Nat.ne_of_lt (Nat.lt_of_lt_of_le (Heap.lt_size e) I.ok.above)
  have neC : ∀ b o, X.s₀.heap.get? b = some o → b ∉ X.ex → b ∉ ch := fun b o e hx hb => by
    rcases (hch b hb).1 with z | z
    · exact hx z
    · exact absurd (Nat.lt_of_lt_of_le (Heap.lt_size e) z) (Nat.lt_irrefl _)
  have cellK : ∀ x c, X.env.cells.lookup x = some c → ∀ v, s.heap.IsCell c v → h'.IsCell c v := fun x c e v ⟨o, ho, hd⟩ => by
    have nch : c ∉ ch := fun z => (hch c z).2.2.1 x c e rfl
    by_cases hc : c ∈ X.fs
    · obtain ⟨sl, q⟩ := slot c o (I.cne x c e) hc nch ho (I.freeC x c e)
      exact ⟨_, q, hd⟩
    · exact ⟨o, keep c o (I.cne x c e) hc nch ho (I.freeC x c e), hd⟩
  refine ⟨I.ok, I.os, hg, ⟨fun b o e n hb hx => ?_, fun b o e n hb hx => ?_, fun b o e n hx => ?_, fun b o e hx => ?_, fun b xs e => tups b xs (I.base.tups b xs e), fun b o xs e => frzs b o xs (I.base.frzs b o xs e), fun b ps e => ?_⟩, ?_, fun x c e => ?_, ?_, fun x c e => ?_, fun p hp => ?_, hok, I.len⟩
  · exact keep b o (neL b o e) hb (neC b o e hx) (I.base.keep b o e n hb hx) (I.base.free b o e n hx)
  · obtain ⟨sl, e1⟩ := I.base.slot b o e n hb hx
    obtain ⟨sl', e2⟩ := slot b _ (neL b o e) hb (neC b o e hx) e1 (I.base.free b o e n hx)
    exact ⟨sl', e2⟩
  · obtain ⟨o', e1⟩ := I.base.there b o e hx
    exact free b o' (neC b o e hx) e1 (I.base.free b o e n hx)
  · obtain ⟨o', e1⟩ := I.base.there b o e hx
    exact there b o' (neC b o e hx) e1
  · obtain ⟨m1, e1⟩ := I.base.tbls b ps e
    obtain ⟨m2, e2⟩ := tbls b _ e1
    exact ⟨m1 ++ m2, by rw [e2, Array.append_assoc]⟩
  · obtain ⟨m, hn, hl⟩ := I.loc
    refine ⟨m, ns m hn, fun i x v e1 e2 e3 => ?_⟩
    obtain ⟨u, r, l⟩ := hl i x v e1 e2 e3
    refine ⟨u, r, ?_⟩
    rcases l with l | ⟨k, c, e, z⟩
    · exact .inl l
    · exact .inr ⟨k, c, e, cellK x c e _ z⟩
  · obtain ⟨v, z⟩ := I.cell x c e
    exact ⟨v, cellK x c e v z⟩
  · obtain ⟨m, ⟨o, _, _, ho, _⟩, _⟩ := I.loc
    exact free _ o (fun z => (hch _ z).2.1 rfl) ho I.free
  · obtain ⟨v, o, ho, hd⟩ := I.cell x c e
    exact free c o (fun z => (hch c z).2.2.1 x c e rfl) ho (I.freeC x c e)
  · obtain ⟨e, n, ne, nf, d⟩ := I.pin p hp
    have nch : p.1 ∉ ch := fun z => (hch p.1 z).2.2.2 p hp rfl
    exact ⟨keep p.1 p.2 ne nf nch e n, free p.1 p.2 nch e n, ne, nf, d⟩
/-- .. where the frame's own object is kept too -/
theorem Inv.un {t' : Nat} (I : Inv X pins σ H s) (u : Un X.fs [] H H' s.heap h') (hok : HOk X.prog X.w H' h') : Inv X pins σ H' { s with heap := h', toks := t' } := by
  obtain ⟨m, ⟨o, es, ep, ho, r⟩, _⟩ := id I.loc
  obtain ⟨sl, hL⟩ := u.any ho I.free (by simp)
  exact I.step (g' := s.gens) (d' := s.drawn) (ch := []) (fun _ z => nomatch z) (fun b o _ hb _ e n => u.keep b o e n hb (by simp)) (fun b o _ hb _ e n => u.slot b o e n hb (by simp)) (fun b o _ e n => u.free b o e n (by simp)) (fun b o _ e => u.there b o e (by simp)) u.tups u.frzs u.tbls (fun m' hm => by
    obtain ⟨o', es', ep', ho', r'⟩ := hm
    rw [ho] at ho'; cases ho'
    exact ⟨_, es', ep', hL, r'⟩) hok I.bare
/-- behind a call (or a comprehension's block): the slots of this frame may have changed too, the records at ch may have turned -/
theorem Inv.call {g' : Array GenState} {t' : Nat} {d' : Drawn} {ch : List Addr} (I : Inv X pins σ H s) (u : Un (frs X.stack) ch H H' s.heap h') (hok : HOk X.prog X.w H' h') (hg : AllBare g')
    (hch : ∀ b ∈ ch, (b ∈ X.ex ∨ X.s₀.heap.objs.size ≤ b) ∧ b ≠ X.env.locals ∧ (∀ x c, X.env.cells.lookup x = some c → c ≠ b) ∧ ∀ p ∈ X.pn ++ pins, p.1 ≠ b) :
    Inv X pins σ H' { s with heap := h', gens := g', drawn := d', toks := t' } := by
  obtain ⟨m, ⟨o, es, ep, ho, r⟩, _⟩ := id I.loc
  obtain ⟨sl, hL⟩ := u.any ho I.free fun z => (hch _ z).2.1 rfl
  exact I.step (ch := ch) hch (fun b o hL hb hc e n => u.keep b o e n (fun z => (List.mem_cons.mp (I.stkSub b z)).elim hL hb) hc) (fun b o _ _ hc e n => u.any e n hc) (fun b o hc e n => u.free b o e n hc) (fun b o hc e => u.there b o e hc) u.tups u.frzs u.tbls (fun m' hm => by
    obtain ⟨o', es', ep', ho', r'⟩ := hm
    rw [ho] at ho'; cases ho'
    exact ⟨_, es', ep', hL, r'⟩) hok hg
/-- an untracked record of ours (an iterator) has turned -/
theorem Inv.turned {t' : Nat} {it : Addr} (I : Inv X pins σ H s) (k : ∀ b o, b ≠ it → s.heap.get? b = some o → h'.get? b = some o) (hn : H it = none) (hL : it ≠ X.env.locals)
    (h1 : it ∈ X.ex ∨ X.s₀.heap.objs.size ≤ it) (h2 : ∀ x c, X.env.cells.lookup x = some c → c ≠ it) (h3 : ∀ p ∈ X.pn ++ pins, p.1 ≠ it) : Inv X pins σ H { s with heap := h', toks := t' } := by
  have nit : ∀ b u, H b = some u → b ≠ it := fun b u e z => by rw [z, hn] at e; cases e
  refine I.step (g' := s.gens) (d' := s.drawn) (ch := [it]) (fun b hb => ?_) (fun b o _ _ hc e _ => k b o (fun z => hc (by simp [z])) e) (fun b o _ _ hc e _ => ⟨o.slots, k b o (fun z => hc (by simp [z])) e⟩) (fun _ _ _ _ n => n)
    (fun b o hc e => ⟨o, k b o (fun z => hc (by simp [z])) e⟩) (fun _ _ e => e) (fun _ _ _ e => e) (fun b ps e => ⟨#[], by rw [e]; simp⟩) (fun m hm => ?_) (fun b u e => ?_) I.bare
  · have e : b = it := by simpa using hb
    subst e
    exact ⟨h1, hL, h2, h3⟩
  · obtain ⟨o, es, ep, ho, r⟩ := hm
    exact ⟨o, es, ep, k _ o (Ne.symm hL) ho, r⟩
  · refine (I.hok b u e).stay (fun c v hc q => k c v ?_ q) (fun _ q => q) fun _ _ q => q
    rcases hc with z | z
    · rw [z]; exact nit b u e
    · exact nit c _ z
theorem Inv.tok (I : Inv X pins σ H s) (t : Nat) : Inv X pins σ H { s with toks := t } := I.un (h' := s.heap) (t' := t) Un.refl I.hok
/-- all objects kept -/
theorem Inv.kept {t' : Nat} (I : Inv X pins σ H s) (k : ∀ b u, s.heap.get? b = some u → h'.get? b = some u) : Inv X pins σ H { s with heap := h', toks := t' } := I.un (Un.kept k) (I.hok.kept k)
/-- a new object laid and tracked -/
theorem Inv.laid {a : Addr} {o : HO} {t' : Nat} (I : Inv X pins σ H s) (k : ∀ b u, s.heap.get? b = some u → h'.get? b = some u) (hp : s.heap.objs.size ≤ a) (new : ObjOk X.prog X.w (upd H a o) h' a o) :
    Inv X pins σ (upd H a o) { s with heap := h', toks := t' } := I.un (Un.laid k hp (I.hok.fresh hp)) (I.hok.laid k hp new)
/-- an object written -/
theorem Inv.write {x e : Addr} {o : HO} {t' : Nat} (I : Inv X pins σ H s) (mu : Mut (H x)) (he : e = x ∨ H e = some (.own x)) (k : ∀ b u, b ≠ e → s.heap.get? b = some u → h'.get? b = some u) (heo : ∃ u, h'.get? e = some u)
    (new : ObjOk X.prog X.w (upd H x o) h' x o) : Inv X pins σ (upd H x o) { s with heap := h', toks := t' } := I.un (Un.write mu he k heo) (I.hok.write mu he k heo new)
/-- forgetting slots, pins -/
theorem Inv.weak {σ' : List (Option V)} (I : Inv X pins σ H s) (hl : σ'.length = σ.length) (w : ∀ (i : Nat) v, σ'[i]? = some (some v) → σ[i]? = some (some v)) : Inv X pins σ' H s :=
  ⟨I.ok, I.os, I.bare, I.base, let ⟨m, hn, hl'⟩ := I.loc; ⟨m, hn, fun i x v e1 e2 e3 => hl' i x v e1 (w i v e2) e3⟩, I.cell, I.free, I.freeC, I.pin, I.hok, hl.trans I.len⟩
theorem Inv.pins_of {pins' : List (Addr × Obj)} (I : Inv X pins σ H s) (h : ∀ p ∈ pins', s.heap.get? p.1 = some p.2 ∧ H p.1 = none ∧ p.1 ≠ X.env.locals ∧ p.1 ∉ X.fs ∧ ∀ v, p.2.data ≠ .cell v) : Inv X pins' σ H s :=
  ⟨I.ok, I.os, I.bare, I.base, I.loc, I.cell, I.free, I.freeC, fun p hp => (List.mem_append.mp hp).elim (fun z => I.pin p (List.mem_append_left _ z)) (h p), I.hok, I.len⟩

theorem nodup_ix {N : List Str} (hN : N.Nodup) {i j : Nat} {x : Str} (a : N[i]? = some x) (b : N[j]? = some x) : i = j := by
  obtain ⟨h1, e1⟩ := List.getElem?_eq_some_iff.mp a
  obtain ⟨h2, e2⟩ := List.getElem?_eq_some_iff.mp b
  exact (List.getElem_inj hN).mp (e1.trans e2.symm)

/-- a name is stored; what changed -/
theorem store_ok2 {M : Model} {A : Around} {E : Value → Shared → Prop} {i : Nat} {x : Str} {v : V} {u : Value} {Q : Unit → Shared → Prop} (I : Inv X pins σ H s) (hN : X.N.Nodup) (hi : X.N[i]? = some x) (hx : Loc X.env.scope x) (r : RelV v u)
    (h : ∀ s', Inv X pins (σ.set i (some v)) H s' → (∃ a, Heap.SameBut a s.heap s'.heap ∧ (a = X.env.locals ∨ X.env.cells.lookup x = some a)) → Q () s') (hf : X.fn x = true ∨ X.env.scope.names.lookup x = some .local := by first | exact .inl rfl | exact .inr rfl | assumption) : wpAny M A (storeName X.env x u) Q E s := by
  obtain ⟨m, hn, hl⟩ := id I.loc
  have hcls : (X.env.scope.kind == .class || (X.env.scope.kind == .module && X.env.locals != X.env.globals)) = false := by rw [I.ok.kind]; rfl
  have hiσ : i < σ.length := by rw [I.len]; exact (List.getElem?_eq_some_iff.mp hi).1
  have cne := I.cne
  have tracked : ∀ {a : Addr} {h' : Heap}, (∃ o, s.heap.get? a = some o ∧ H a = none) → Heap.SameBut a s.heap h' → HOk X.prog X.w H h' := fun {a h'} ha hs b ob e => by
    obtain ⟨_, _, hfree⟩ := ha
    refine (I.hok b ob e).stay (fun c w' hc q => (hs.2 c ?_).trans q) (fun _ q => q) fun _ _ q => q
    rintro rfl
    rcases hc with rfl | hc
    · rw [hfree] at e; cases e
    · rw [hfree] at hc; cases hc
  rcases hx with hk | hk
  · refine wpAny_storeName_local hk hn (fun h' hn' hs => ?_) hcls
    obtain ⟨oL, _, _, hoL, _⟩ := id hn
    refine h _ ⟨I.ok, I.os, I.bare, ⟨fun b o e n hb hx => ?_, fun b o e n hb hx => ?_, I.base.free, fun b o e hx => ?_, I.base.tups, I.base.frzs, I.base.tbls⟩, ⟨_, hn', fun j y v' e1 e2 e3 => ?_⟩, fun y c e => ?_, I.free, I.freeC, fun p hp => ?_, tracked ⟨oL, hoL, I.free⟩ hs, by simpa using I.len⟩ ⟨_, hs, .inl rfl⟩
    · exact (hs.2 b (Nat.ne_of_lt (Nat.lt_of_lt_of_le (Heap.lt_size e) I.ok.above))).trans (I.base.keep b o e n hb hx)
    · obtain ⟨sl, e1⟩ := I.base.slot b o e n hb hx
      exact ⟨sl, (hs.2 b (Nat.ne_of_lt (Nat.lt_of_lt_of_le (Heap.lt_size e) I.ok.above))).trans e1⟩
    · obtain ⟨o', e1⟩ := I.base.there b o e hx
      exact ⟨o', (hs.2 b (Nat.ne_of_lt (Nat.lt_of_lt_of_le (Heap.lt_size e) I.ok.above))).trans e1⟩
    · by_cases hj : j = i
      · subst hj
        rw [hi] at e1; cases e1
        rw [List.getElem?_set_self hiσ] at e2
        cases e2
        exact ⟨u, r, .inl ⟨hk, by simp⟩⟩
      · rw [List.getElem?_set_ne (Ne.symm hj)] at e2
        obtain ⟨u', r', q⟩ := hl j y v' e1 e2 e3
        refine ⟨u', r', ?_⟩
        rcases q with ⟨k, e⟩ | ⟨k, c, e, z⟩
        · refine .inl ⟨k, ?_⟩
          have : y ≠ x := fun e => hj (nodup_ix hN e1 (e ▸ hi))
          simp [this, e]
        · exact .inr ⟨k, c, e, z.sameBut hs (cne y c e)⟩
    · obtain ⟨w', z⟩ := I.cell y c e
      exact ⟨w', z.sameBut hs (cne y c e)⟩
    · obtain ⟨e, n, ne, nf, d⟩ := I.pin p hp
      exact ⟨(hs.2 p.1 ne).trans e, n, ne, nf, d⟩
  · have hfn : X.fn x = true := by
      rcases hf with z | z
      · exact z
      · rw [z] at hk; cases hk
    obtain ⟨c, hc⟩ := I.ok.has x (.inl hk)
    obtain ⟨w', z⟩ := I.cell x c hc
    refine wpAny_storeName_cell I.ok.kind hk hc z (fun h' hc' hs => ?_)
    obtain ⟨oc, hoc, hocd⟩ := id z
    refine h { s with heap := h' } ⟨I.ok, I.os, I.bare, ⟨fun b o e n hb hx => ?_, fun b o e n hb hx => ?_, I.base.free, fun b o e hx => ?_, I.base.tups, I.base.frzs, I.base.tbls⟩, ⟨m, hn.sameBut hs (Ne.symm (cne x c hc)), fun j y v' e1 e2 e3 => ?_⟩, fun y c' e => ?_, I.free, I.freeC, fun p hp => ?_, tracked ⟨oc, hoc, I.freeC x c hc⟩ hs, by simpa using I.len⟩ ⟨c, hs, .inr hc⟩
    · exact (hs.2 b (Nat.ne_of_lt (Nat.lt_of_lt_of_le (Heap.lt_size e) (I.ok.cab x c hfn hc)))).trans (I.base.keep b o e n hb hx)
    · obtain ⟨sl, e1⟩ := I.base.slot b o e n hb hx
      exact ⟨sl, (hs.2 b (Nat.ne_of_lt (Nat.lt_of_lt_of_le (Heap.lt_size e) (I.ok.cab x c hfn hc)))).trans e1⟩
    · obtain ⟨o', e1⟩ := I.base.there b o e hx
      exact ⟨o', (hs.2 b (Nat.ne_of_lt (Nat.lt_of_lt_of_le (Heap.lt_size e) (I.ok.cab x c hfn hc)))).trans e1⟩
    · by_cases hj : j = i
      · subst hj
        rw [hi] at e1; cases e1
        rw [List.getElem?_set_self hiσ] at e2
        cases e2
        exact ⟨u, r, .inr ⟨.inl hk, c, hc, hc'⟩⟩
      · rw [List.getElem?_set_ne (Ne.symm hj)] at e2
        obtain ⟨u', r', q⟩ := hl j y v' e1 e2 e3
        refine ⟨u', r', ?_⟩
        rcases q with q | ⟨k, c', e, z'⟩
        · exact .inl q
        · refine .inr ⟨k, c', e, z'.sameBut hs ?_⟩
          rintro rfl
          exact hj (nodup_ix hN e1 (I.ok.inj _ _ _ e hc ▸ hi))
    · by_cases hcc : c' = c
      · subst hcc; exact ⟨_, hc'⟩
      · obtain ⟨w2, z2⟩ := I.cell y c' e
        exact ⟨w2, z2.sameBut hs hcc⟩
    · obtain ⟨e, n, ne, nf, d⟩ := I.pin p hp
      refine ⟨(hs.2 p.1 ?_).trans e, n, ne, nf, d⟩
      intro q
      rw [q, hoc] at e
      have q' : oc = p.2 := Option.some.inj e
      exact d w' (by rw [← q']; exact hocd)
theorem store_ok {M : Model} {A : Around} {E : Value → Shared → Prop} {i : Nat} {x : Str} {v : V} {u : Value} {Q : Unit → Shared → Prop} (I : Inv X pins σ H s) (hN : X.N.Nodup) (hi : X.N[i]? = some x) (hx : Loc X.env.scope x) (r : RelV v u)
    (h : ∀ s', Inv X pins (σ.set i (some v)) H s' → Q () s') (hf : X.fn x = true ∨ X.env.scope.names.lookup x = some .local := by first | exact .inl rfl | exact .inr rfl | assumption) : wpAny M A (storeName X.env x u) Q E s :=
  store_ok2 I hN hi hx r (fun s' I' _ => h s' I') hf
/-- behind a call or a block, the state as it is -/
theorem Inv.call' {s' : Shared} {ch : List Addr} (I : Inv X pins σ H s) (ho : s'.os = s.os) (u : Un (frs X.stack) ch H H' s.heap s'.heap) (hok : HOk X.prog X.w H' s'.heap) (hg : AllBare s'.gens)
    (hch : ∀ b ∈ ch, (b ∈ X.ex ∨ X.s₀.heap.objs.size ≤ b) ∧ b ≠ X.env.locals ∧ (∀ x c, X.env.cells.lookup x = some c → c ≠ b) ∧ ∀ p ∈ X.pn ++ pins, p.1 ≠ b) : Inv X pins σ H' s' := by
  obtain ⟨h', g', d', t', o'⟩ := s'
  have e : o' = s.os := ho
  subst e
  exact I.call (g' := g') (t' := t') (d' := d') u hok hg hch
end

/-! ### the judgements -/
/-- an exception: its class, its own dict's address (where it has one), the abstract heap behind it -/
abbrev XK := Value → Option Addr → Hp → Prop
abbrev St := List (Option V)
abbrev VK := V → Hp → Prop
/-- an expression's reading; a test's; an argument list's -/
abbrev TE := St → Hp → VK → Prop
abbrev TT := St → Hp → (Bool → Hp → Prop) → Prop
abbrev TA := St → Hp → (List V → Hp → Prop) → Prop
/-- what is wanted behind a statement -/
structure Ends where
  nx : St → Hp → Prop
  rt : VK
  bk : St → Hp → Prop := fun _ _ => False
  ct : St → Hp → Prop := fun _ _ => False
abbrev TS := Ends → St → Hp → Prop

def EP (X : Cx) (pins : List (Addr × Obj)) (σ : St) (Q : VK) (u : Value) (s' : Shared) : Prop := ∃ v H', Inv X pins σ H' s' ∧ RelV v u ∧ Q v H'
def TP (X : Cx) (pins : List (Addr × Obj)) (σ : St) (Q : Bool → Hp → Prop) (b : Bool) (s' : Shared) : Prop := ∃ H', Inv X pins σ H' s' ∧ Q b H'
def AP (X : Cx) (pins : List (Addr × Obj)) (σ : St) (Q : List V → Hp → Prop) (us : List Value) (s' : Shared) : Prop := ∃ vs H', Inv X pins σ H' s' ∧ Vals vs us ∧ Q vs H'
def SP (X : Cx) (pins : List (Addr × Obj)) (D : Ends) (f : Flow) (s' : Shared) : Prop :=
  match f with
  | .next => ∃ σ' H', Inv X pins σ' H' s' ∧ D.nx σ' H'
  | .brk => ∃ σ' H', Inv X pins σ' H' s' ∧ D.bk σ' H'
  | .cont => ∃ σ' H', Inv X pins σ' H' s' ∧ D.ct σ' H'
  | .ret u => ∃ v σ' H', Inv X pins σ' H' s' ∧ RelV v u ∧ D.rt v H'

def PE (X : Cx) (e : Expr) (t : TE) : Prop :=
  ∀ (pins : List (Addr × Obj)) (s : Shared) (σ : St) (H : Hp) (Q : VK), Inv X pins σ H s → t σ H Q → wpAny (model X.prog X.w) X.A (eval e X.env) (EP X pins σ Q) X.xe s
def PT (X : Cx) (e : Expr) (t : TT) : Prop :=
  ∀ (pins : List (Addr × Obj)) (s : Shared) (σ : St) (H : Hp) (Q : Bool → Hp → Prop), Inv X pins σ H s → t σ H Q → wpAny (model X.prog X.w) X.A (isTrue e X.env (eval e X.env)) (TP X pins σ Q) X.xe s
/-- a test whatever its 'whole' is (and, or) -/
def PW (X : Cx) (e : Expr) (t : TT) : Prop :=
  ∀ (whole : Sem Value) (pins : List (Addr × Obj)) (s : Shared) (σ : St) (H : Hp) (Q : Bool → Hp → Prop), Inv X pins σ H s → t σ H Q → wpAny (model X.prog X.w) X.A (isTrue e X.env whole) (TP X pins σ Q) X.xe s
theorem PW.pt {X : Cx} {e : Expr} {t : TT} (h : PW X e t) : PT X e t := h _
/-- an argument list (no star), from the left -/
def PA (X : Cx) (es : List Expr) (t : TA) : Prop :=
  ∀ (pos : Pos) (pins : List (Addr × Obj)) (s : Shared) (σ : St) (H : Hp) (Q : List V → Hp → Prop), Inv X pins σ H s → t σ H Q → wpAny (model X.prog X.w) X.A (spliced (backTo pos (starEach es X.env))) (AP X pins σ Q) X.xe s
def PS (X : Cx) (st : Stmt) (t : TS) : Prop :=
  ∀ (pins : List (Addr × Obj)) (s : Shared) (σ : St) (H : Hp) (D : Ends), Inv X pins σ H s → t D σ H → wpAny (model X.prog X.w) X.A (exec st X.env) (SP X pins D) X.xe s
def PSs (X : Cx) (st : List Stmt) (t : TS) : Prop :=
  ∀ (pins : List (Addr × Obj)) (s : Shared) (σ : St) (H : Hp) (D : Ends), Inv X pins σ H s → t D σ H → wpAny (model X.prog X.w) X.A (execs st X.env) (SP X pins D) X.xe s
/-- weaken the end -/
theorem thn {α : Type} {t : Sem α} {Q Q' : α → Shared → Prop} {M : Model} {A : Around} {E : Value → Shared → Prop} {s : Shared} (h : wpAny M A t Q E s) (hQ : ∀ a s, Q a s → Q' a s) : wpAny M A t Q' E s := wpAny_mono h hQ fun _ _ x => x
end L2

namespace L2
open PySem PySem.Spec PyProof.Rows
section
variable {X : Cx}

/-! ### names and constants -/
def tVar (i : Nat) : TE := fun σ H Q => ∃ v, σ[i]? = some (some v) ∧ Q v H
def tC (v : V) : TE := fun _ H Q => Q v H
theorem pe_var {i : Nat} {x : Str} {pos : Pos} (hN : X.N[i]? = some x) (hv : Vis X.env.scope x) (hd : (x == ("__debug__" : Str)) = false := by decide) (hcd : (x == ("__classdict__" : Str)) = false := by decide) : PE X (.Name x pos) (tVar i) := by
  intro pins s σ H Q I h
  obtain ⟨v, e, h⟩ := h
  obtain ⟨m, hn, hl⟩ := I.loc
  obtain ⟨u, r, l⟩ := hl i x v hN e hv
  have fin : EP X pins σ Q u s := ⟨v, H, I, r, h⟩
  rcases l with ⟨hk, hm⟩ | ⟨hk, c, hc, hcell⟩
  · exact wpAny_Name (wpAny_loadName_local I.ok.kind hk hn hm fin) hd
  · rcases hk with hk | hk
    · exact wpAny_Name (wpAny_loadName_cell I.ok.kind hk hc hcell fin) hd
    · exact wpAny_Name (wpAny_loadName_free I.ok.kind hk hc hcell fin hcd) hd
theorem pe_int {i j pos} : PE X (.Constant (.int i) j pos) (tC (.int i)) := fun _ _ _ H _ I h => wpAny_Constant_int ⟨.int i, H, I.tok _, ⟨_, rfl⟩, h⟩
theorem pe_bl {b j pos} : PE X (.Constant (.bool b) j pos) (tC (.bl b)) := fun _ _ _ H _ I h => Constant_bool ⟨.bl b, H, I, rfl, h⟩
/-- a global name of the def -/
def Gl (X : Cx) (x : Str) : Prop := X.env.kindOf x = some .globalImplicit
theorem ld_glob {E : Value → Shared → Prop} {pins : List (Addr × Obj)} {s : Shared} {σ : St} {H : Hp} {x : Str} {u : Value} {pos : Pos} {Q : Value → Shared → Prop} (I : Inv X pins σ H s) (hg : Gl X x) (hm : X.mg x = some u) (h : Q u s)
    (hd : (x == ("__debug__" : Str)) = false := by decide) : wpAny (model X.prog X.w) X.A (eval (.Name x pos) X.env) Q E s :=
  Calls.Name_function_global I.ok.kind hg (Calls.loadGlobal_global (by rw [I.ok.glob]; exact I.mod.glob.keeps I.bk) hm h) hd
theorem ld_blt {E : Value → Shared → Prop} {pins : List (Addr × Obj)} {s : Shared} {σ : St} {H : Hp} {x : Str} {u : Value} {pos : Pos} {Q : Value → Shared → Prop} (I : Inv X pins σ H s) (hg : Gl X x) (hm : X.mg x = none) (hv : bootBuiltins x = some u) (h : Q u s)
    (hn : x ≠ "__name__" := by decide) (hd : (x == ("__debug__" : Str)) = false := by decide) : wpAny (model X.prog X.w) X.A (eval (.Name x pos) X.env) Q E s := by
  obtain ⟨mb, h1, h2⟩ := I.mod.blt
  exact Calls.Name_function_global I.ok.kind hg (Calls.loadGlobal_builtin (by rw [I.ok.glob]; exact I.mod.glob.keeps I.bk) hm (by rw [I.ok.blt]; exact h1.keeps I.bk) ((h2 x hn).trans hv) h) hd
theorem pe_bltn {x : Str} {v : V} {u : Value} {pos : Pos} (hg : Gl X x) (hm : X.mg x = none) (hv : bootBuiltins x = some u) (r : RelV v u) (hn : x ≠ "__name__" := by decide) (hd : (x == ("__debug__" : Str)) = false := by decide) : PE X (.Name x pos) (tC v) :=
  fun _ _ _ H _ I h => ld_blt I hg hm hv ⟨v, H, I, r, h⟩ hn hd

/-! ### arithmetic -/
variable {a b : Expr} {ta tb : TE} {pos : Pos}
/-! ### comparisons -/
def PC (X : Cx) (op : CmpOp) (a b : Expr) (t : TE) : Prop :=
  ∀ (pins : List (Addr × Obj)) (s : Shared) (σ : St) (H : Hp) (Q : VK), Inv X pins σ H s → t σ H Q →
    wpAny (model X.prog X.w) X.A (eval a X.env) (fun v s₁ => wpAny (model X.prog X.w) X.A (eval b X.env) (fun u s₂ => wpAny (model X.prog X.w) X.A (compareOp op v u) (EP X pins σ Q) X.xe s₂) X.xe s₁) X.xe s
theorem nobehind (b : Expr) {op : CmpOp} (h : op ≠ .In) (h2 : op ≠ .NotIn) : behindInMarks op b = false := by
  have e1 : (op == CmpOp.In) = false := by cases op <;> first | rfl | exact absurd rfl h
  have e2 : (op == CmpOp.NotIn) = false := by cases op <;> first | rfl | exact absurd rfl h2
  cases b <;> simp [behindInMarks, e1, e2]
/-- a comparison as a value, as a test -/
def tB (t : TE) : TT := fun σ H Q => t σ H fun x H1 => ∃ c, x = .bl c ∧ Q c H1
theorem pt_cmp {op : CmpOp} {t : TE} (h : PC X op a b t) (h1 : behindInMarks op b = false := by first | exact nobehind _ (by decide) (by decide) | rfl) : PT X (.Compare a [op] [b] pos) (tB t) := by
  intro pins s σ H Q I hw
  refine wpAny_isTrue_Compare1 (thn (h pins s σ H _ I hw) fun v s1 h1 => thn h1 fun u s2 h2 => thn h2 fun c s3 ⟨x, H1, I1, r1, q1⟩ => ?_) h1
  obtain ⟨d, rfl, q⟩ := q1
  cases r1
  exact wpAny_truthy_bool ⟨H1, I1, q⟩
/-- an expression whose value is a bool, as a test -/
theorem pt_val {e : Expr} {t : TE} (h : PE X e t) (he : ∀ whole, isTrue e X.env whole = (do let v ← whole; standAt e.pos; holding [v] (truthy v)) := by intro _; rfl) : PT X e (tB t) := by
  intro pins s σ H Q I hw
  refine isTrue_plain (thn (h pins s σ H _ I hw) fun v s1 ⟨x, H1, I1, r1, q1⟩ => ?_) (he _)
  obtain ⟨d, rfl, q⟩ := q1
  cases r1
  exact wpAny_truthy_bool ⟨H1, I1, q⟩

/-! ### and, or, not -/
variable {tA tB' : TT} {rest : List Expr}
def tAnd (t u : TT) : TT := fun σ H Q => t σ H fun c H1 => if c = true then u σ H1 Q else Q false H1
def tOr (t u : TT) : TT := fun σ H Q => t σ H fun c H1 => if c = true then Q true H1 else u σ H1 Q
def tNot (t : TT) : TT := fun σ H Q => t σ H fun c H1 => Q (!c) H1
theorem pw_and1 (ha : PT X a tA) : PW X (.BoolOp .And [a] pos) tA := by
  intro wh pins s σ H Q I h
  refine isTrue_and (thn (ha pins s σ H Q I h) fun c s1 e => ?_)
  cases c with
  | true => exact isTrue_and_nil e
  | false => exact e
theorem pw_or1 (ha : PT X a tA) : PW X (.BoolOp .Or [a] pos) tA := by
  intro wh pins s σ H Q I h
  refine isTrue_or (thn (ha pins s σ H Q I h) fun c s1 e => ?_)
  cases c with
  | false => exact isTrue_or_nil e
  | true => exact e
theorem pw_and (ha : PT X a tA) (hb : PW X (.BoolOp .And (b :: rest) pos) tB') : PW X (.BoolOp .And (a :: b :: rest) pos) (tAnd tA tB') := by
  intro wh pins s σ H Q I h
  refine isTrue_and (thn (ha pins s σ H _ I h) fun c s1 ⟨H1, I1, q1⟩ => ?_)
  cases c with
  | true => exact hb wh pins s1 σ H1 Q I1 q1
  | false => exact ⟨H1, I1, q1⟩
theorem pw_or (ha : PT X a tA) (hb : PW X (.BoolOp .Or (b :: rest) pos) tB') : PW X (.BoolOp .Or (a :: b :: rest) pos) (tOr tA tB') := by
  intro wh pins s σ H Q I h
  refine isTrue_or (thn (ha pins s σ H _ I h) fun c s1 ⟨H1, I1, q1⟩ => ?_)
  cases c with
  | true => exact ⟨H1, I1, q1⟩
  | false => exact hb wh pins s1 σ H1 Q I1 q1
theorem pt_not (ha : PT X a tA) : PT X (.UnaryOp .Not a pos) (tNot tA) := by
  intro pins s σ H Q I h
  exact isTrue_not (ha pins s σ H (fun c H1 => Q (!c) H1) I h)
/-- .. as values (bools) -/
def tAndV (ta tb : TE) : TE := fun σ H Q => ta σ H fun x H1 => ∃ c, x = .bl c ∧ if c = true then tb σ H1 Q else Q (.bl false) H1
def tNotV (ta : TE) : TE := fun σ H Q => ta σ H fun x H1 => ∃ c, x = .bl c ∧ Q (.bl (!c)) H1
theorem pe_one {op} {t : TE} (h : PE X a t) : PE X (.BoolOp op [a] pos) t := fun pins s σ H Q I hw => BoolOp_one (h pins s σ H Q I hw)
theorem pe_and (ha : PE X a ta) (hb : PE X (.BoolOp .And (b :: rest) pos) tb) : PE X (.BoolOp .And (a :: b :: rest) pos) (tAndV ta tb) := by
  intro pins s σ H Q I h
  refine BoolOp_and (thn (ha pins s σ H _ I h) fun v s1 ⟨x, H1, I1, r1, q1⟩ => ?_)
  obtain ⟨c, rfl, q1⟩ := q1
  cases r1
  refine wpAny_truthy_bool ?_
  cases c with
  | true => exact hb pins s1 σ H1 Q I1 q1
  | false => exact ⟨.bl false, H1, I1, rfl, q1⟩
theorem pe_not (ha : PE X a ta) : PE X (.UnaryOp .Not a pos) (tNotV ta) := by
  intro pins s σ H Q I h
  refine UnaryOp_ (thn (ha pins s σ H _ I h) fun v s1 ⟨x, H1, I1, r1, q1⟩ => ?_)
  obtain ⟨c, rfl, q1⟩ := q1
  cases r1
  exact not_of (wpAny_truthy_bool ⟨.bl (!c), H1, I1, rfl, q1⟩)
end
end L2

namespace L2
open PySem PySem.Spec PyProof.Rows

/-! ### a list, a tuple that is read: tracked, frozen, or an object of the module -/
def SqL (K : PySem.W.Frag) (H : Hp) (a : Addr) (xs : List V) : Prop :=
  Rd H a (.lst xs) ∨
    ∃ (o : Obj) (its : Array Value) (n : Nat), K.lookup a = some o ∧ o.cls = .type "list" ∧ o.dict = none ∧ o.data = .seq its n ∧ its.size ≤ sizeLine ∧ Vals xs its.toList
def SqT (K : PySem.W.Frag) (H : Hp) (a : Addr) (xs : List V) : Prop :=
  Rd H a (.tup xs) ∨
    ∃ (o : Obj) (its : Array Value) (n : Nat), K.lookup a = some o ∧ o.cls = .type "tuple" ∧ o.data = .seq its n ∧ its.size ≤ sizeLine ∧ Vals xs its.toList
def absV : Value → Option V
  | .none => some .non
  | .bool b => some (.bl b)
  | .int i _ => some (.int i)
  | .str x _ => some (.str x)
  | .bytes b _ => some (.byt b)
  | .float b _ => some (.flt b)
  | .ref a => some (.ref a)
  | .type n => some (.ty n)
  | _ => none
theorem RelV.abs {x : V} {u : Value} (r : RelV x u) : absV u = some x := by
  cases x with
  | non => cases r; rfl
  | bl _ => cases r; rfl
  | int _ => obtain ⟨t, rfl⟩ := r; rfl
  | str _ => obtain ⟨t, rfl⟩ := r; rfl
  | byt _ => obtain ⟨t, rfl⟩ := r; rfl
  | flt _ => obtain ⟨t, rfl⟩ := r; rfl
  | ref _ => cases r; rfl
  | ty _ => cases r; rfl
theorem RelV.inj {x y : V} {u : Value} (r : RelV x u) (q : RelV y u) : x = y := Option.some.inj (r.abs.symm.trans q.abs)
theorem Vals.inj : ∀ {xs ys : List V} {us : List Value}, Vals xs us → Vals ys us → xs = ys
  | _, _, _, .nil, .nil => rfl
  | _, _, _, .cons r t, .cons r' t' => by rw [r.inj r', Vals.inj t t']
section
variable {X : Cx} {pins : List (Addr × Obj)} {σ : St} {H : Hp} {s : Shared} {a : Addr} {xs ys : List V}
theorem SqL.of {K : PySem.W.Frag} (h : H a = some (.lst xs)) : SqL K H a xs := .inl (.inl h)
theorem SqT.of {K : PySem.W.Frag} (h : H a = some (.tup xs)) : SqT K H a xs := .inl (.inl h)
theorem Inv.list (I : Inv X pins σ H s) (h : SqL X.K H a xs) : ∃ its : List Value, Vals xs its ∧ PlainL s.heap a its.toArray ∧ xs.length ≤ sizeLine := by
  rcases h with h | ⟨o, its, n, hk, hc, hd, hs, hz, r⟩
  · obtain ⟨z, its, n, r, e⟩ := h.ok I.hok
    exact ⟨its, r, ⟨_, n, e, rfl, rfl, rfl⟩, z⟩
  · refine ⟨its.toList, r, ⟨o, n, I.kIn a o hk, hc, hd, by simpa using hs⟩, ?_⟩
    have e := r.length
    simp only [Array.length_toList] at e
    omega
theorem Inv.tuple (I : Inv X pins σ H s) (h : SqT X.K H a xs) : ∃ its : List Value, Vals xs its ∧ IsTup s.heap a its.toArray ∧ xs.length ≤ sizeLine := by
  rcases h with h | ⟨o, its, n, hk, hc, hs, hz, r⟩
  · obtain ⟨z, its, r, p⟩ := h.ok I.hok
    exact ⟨its, r, p, z⟩
  · refine ⟨its.toList, r, ⟨o, I.kIn a o hk, hc, n, by simpa using hs⟩, ?_⟩
    have e := r.length
    simp only [Array.length_toList] at e
    omega
theorem Inv.list_inj (I : Inv X pins σ H s) (h : SqL X.K H a xs) (h' : SqL X.K H a ys) : xs = ys := by
  obtain ⟨its, r, ⟨o, n, e, _, _, d⟩, _⟩ := I.list h
  obtain ⟨its', r', ⟨o', n', e', _, _, d'⟩, _⟩ := I.list h'
  rw [e] at e'; cases e'
  rw [d] at d'
  injection d' with d1 _
  have : its = its' := by simpa using congrArg Array.toList d1
  subst this
  exact r.inj r'
end

/-! ### another wish about exceptions -/
abbrev Cx.wish (X : Cx) (E : Value → Shared → Prop) : Cx := { X with xe := E }
/-- no exception leaves -/
abbrev Cx.nox (X : Cx) : Cx := X.wish fun _ _ => False
theorem Cx.Ok.wish {X : Cx} (ok : X.Ok) (E : Value → Shared → Prop) : (X.wish E).Ok :=
  ⟨ok.mod, ok.kind, ok.glob, ok.blt, ok.above, ok.inj, ok.has, ok.cab, ok.hd, ok.frames, ok.stk, ok.exf, ok.bs, ok.bsz, ok.noex, ok.exfs, ok.funs, ok.frf⟩
theorem Cx.Ok.unwish {X : Cx} {E : Value → Shared → Prop} (ok : (X.wish E).Ok) : X.Ok :=
  ⟨ok.mod, ok.kind, ok.glob, ok.blt, ok.above, ok.inj, ok.has, ok.cab, ok.hd, ok.frames, ok.stk, ok.exf, ok.bs, ok.bsz, ok.noex, ok.exfs, ok.funs, ok.frf⟩
section
variable {X : Cx} {pins : List (Addr × Obj)} {σ : St} {H : Hp} {s : Shared} {E : Value → Shared → Prop}
theorem Inv.wish (I : Inv X pins σ H s) (E : Value → Shared → Prop) : Inv (X.wish E) pins σ H s := ⟨I.ok.wish E, I.os, I.bare, I.base, I.loc, I.cell, I.free, I.freeC, I.pin, I.hok, I.len⟩
theorem Inv.unwish (I : Inv (X.wish E) pins σ H s) : Inv X pins σ H s := ⟨I.ok.unwish, I.os, I.bare, I.base, I.loc, I.cell, I.free, I.freeC, I.pin, I.hok, I.len⟩
theorem SP.unwish {D : Ends} {f : Flow} {s' : Shared} (h : SP (X.wish E) pins D f s') : SP X pins D f s' := by
  cases f with
  | next => obtain ⟨σ', H', I, q⟩ := h; exact ⟨σ', H', I.unwish, q⟩
  | brk => obtain ⟨σ', H', I, q⟩ := h; exact ⟨σ', H', I.unwish, q⟩
  | cont => obtain ⟨σ', H', I, q⟩ := h; exact ⟨σ', H', I.unwish, q⟩
  | ret u => obtain ⟨v, σ', H', I, r, q⟩ := h; exact ⟨v, σ', H', I.unwish, r, q⟩
theorem PE.nox {e : Expr} {t : TE} (h : PE X.nox e t) : PE X e t := fun pins s σ H Q I hw =>
  wpAny_mono (h pins s σ H Q (I.wish _) hw) (fun _ _ ⟨v, H', I', r, q⟩ => ⟨v, H', I'.unwish, r, q⟩) fun _ _ z => False.elim z
theorem PT.nox {e : Expr} {t : TT} (h : PT X.nox e t) : PT X e t := fun pins s σ H Q I hw =>
  wpAny_mono (h pins s σ H Q (I.wish _) hw) (fun _ _ ⟨H', I', q⟩ => ⟨H', I'.unwish, q⟩) fun _ _ z => False.elim z
theorem PSs.nox {st : List Stmt} {t : TS} (h : PSs X.nox st t) : PSs X st t := fun pins s σ H D I hw =>
  wpAny_mono (h pins s σ H D (I.wish _) hw) (fun _ _ q => q.unwish) fun _ _ z => False.elim z
end

/-! ### blocks and small statements -/
section
variable {X : Cx} {st : Stmt} {rest : List Stmt} {t u : TS} {e : Expr} {te : TE} {pos : Pos}
def tNext : TS := fun D σ H => D.nx σ H
def tSeq (t u : TS) : TS := fun D σ H => t { D with nx := u D } σ H
theorem pss_nil : PSs X [] tNext := fun _ _ σ H _ I h => wpAny_execs_nil ⟨σ, H, I, h⟩
theorem pss_cons (h1 : PS X st t) (h2 : PSs X rest u) : PSs X (st :: rest) (tSeq t u) := by
  intro pins s σ H D I h
  refine wpAny_execs_cons (thn (h1 pins s σ H { D with nx := u D } I h) fun f s1 q => ?_)
  cases f with
  | next =>
    obtain ⟨σ', H', I', q⟩ := q
    exact h2 pins s1 σ' H' D I' q
  | ret v => exact q
  | brk => exact q
  | cont => exact q
theorem pss_one (h1 : PS X st t) : PSs X [st] t := by
  intro pins s σ H D I h
  refine wpAny_execs_cons (thn (h1 pins s σ H D I h) fun f s1 q => ?_)
  cases f with
  | next => exact wpAny_execs_nil q
  | ret v => exact q
  | brk => exact q
  | cont => exact q
/-- in a def's body nothing is shown -/
theorem Inv.quiet {pins : List (Addr × Obj)} {σ : St} {H : Hp} {s : Shared} (I : Inv X pins σ H s) : interactive X.env = false := by simp [interactive, I.ok.kind]
/-- an expression whose value is dropped -/
def tDrop (te : TE) : TS := fun D σ H => te σ H fun _ H1 => D.nx σ H1
theorem ps_expr (he : PE X e te) (hs : swapsWith e none pos.line X.env = pure false := by rfl) : PS X (.Expr e pos) (tDrop te) := by
  intro pins s σ H D I h
  exact wpAny_Expr_any (thn (he pins s σ H _ I h) fun v s1 ⟨x, H1, I1, r1, q1⟩ => ⟨σ, H1, I1, q1⟩) I.quiet hs
def tRet (te : TE) : TS := fun D σ H => te σ H D.rt
theorem ps_ret (he : PE X e te) : PS X (.Return (some e) pos) (tRet te) := by
  intro pins s σ H D I h
  exact wpAny_Return_some (thn (he pins s σ H _ I h) fun v s1 ⟨x, H1, I1, r1, q1⟩ => ⟨x, σ, H1, I1, r1, q1⟩)
def tIfS (c : TT) (t u : TS) : TS := fun D σ H => c σ H fun b H1 => if b = true then t D σ H1 else u D σ H1
theorem ps_if {c : Expr} {a b : List Stmt} {tc : TT} (hc : PT X c tc) (ha : PSs X a t) (hb : PSs X b u) : PS X (.If c a b pos) (tIfS tc t u) := by
  intro pins s σ H D I h
  refine wpAny_If (thn (hc pins s σ H _ I h) fun d s1 ⟨H1, I1, q1⟩ => ?_)
  cases d with
  | true => exact ha pins s1 σ H1 D I1 q1
  | false => exact hb pins s1 σ H1 D I1 q1
end

/-! ### targets -/
abbrev TG := V → St → Hp → (St → Hp → Prop) → Prop
abbrev TGs := List V → St → Hp → (St → Hp → Prop) → Prop
def PG (X : Cx) (target : Expr) (t : TG) : Prop :=
  ∀ (pins : List (Addr × Obj)) (s : Shared) (σ : St) (H : Hp) (v : V) (u : Value) (Q : St → Hp → Prop), Inv X pins σ H s → RelV v u → t v σ H Q →
    wpAny (model X.prog X.w) X.A (assign target X.env u) (fun _ s' => ∃ σ' H', Inv X pins σ' H' s' ∧ Q σ' H') X.xe s
/-- several targets, one after another -/
def PGs (X : Cx) (ts : List Expr) (t : TGs) : Prop :=
  ∀ (pins : List (Addr × Obj)) (s : Shared) (σ : St) (H : Hp) (vs : List V) (us : List Value) (Q : St → Hp → Prop), Inv X pins σ H s → Vals vs us → t vs σ H Q →
    wpAny (model X.prog X.w) X.A (assignInOrder ((assignEach ts X.env).map (·.2)) us) (fun _ s' => ∃ σ' H', Inv X pins σ' H' s' ∧ Q σ' H') X.xe s
section
variable {X : Cx} {pos : Pos}
def gName (i : Nat) : TG := fun v σ H Q => Q (σ.set i (some v)) H
theorem pg_name {i : Nat} {x : Str} (hN : X.N.Nodup) (hi : X.N[i]? = some x) (hx : Loc X.env.scope x) (hf : X.fn x = true ∨ X.env.scope.names.lookup x = some .local := by first | exact .inl rfl | exact .inr rfl | assumption) : PG X (.Name x pos) (gName i) := by
  intro pins s σ H v u Q I r h
  exact wpAny_assign_Name (store_ok I hN hi hx r (fun s' I' => ⟨_, H, I', h⟩) hf)
def gNil : TGs := fun vs σ H Q => vs = [] ∧ Q σ H
def gCons (t : TG) (u : TGs) : TGs := fun vs σ H Q => ∃ v r, vs = v :: r ∧ t v σ H fun σ' H' => u r σ' H' Q
theorem pgs_nil : PGs X [] gNil := by
  intro pins s σ H vs us Q I r h
  obtain ⟨e, h⟩ := h
  subst e
  cases r
  exact assignInOrder_nil ⟨σ, H, I, h⟩
theorem pgs_cons {e : Expr} {es : List Expr} {t : TG} {u : TGs} (h1 : PG X e t) (h2 : PGs X es u)
    (hs : (assignEach (e :: es) X.env).map (·.2) = assign e X.env :: (assignEach es X.env).map (·.2) := by rfl) : PGs X (e :: es) (gCons t u) := by
  intro pins s σ H vs us Q I r h
  obtain ⟨v, vr, e1, h⟩ := h
  subst e1
  cases r with
  | cons r rr =>
    rw [hs]
    refine assignInOrder_cons (thn (h1 pins s σ H _ _ _ I r h) fun _ s1 ⟨σ1, H1, I1, q1⟩ => ?_)
    exact h2 pins s1 σ1 H1 _ _ Q I1 rr q1
/-- (a, b, ..) = a tuple of that length -/
def gTup (K : PySem.W.Frag) (n : Nat) (t : TGs) : TG := fun v σ H Q => ∃ a xs, v = .ref a ∧ SqT K H a xs ∧ xs.length = n ∧ t xs σ H Q
theorem pg_tup {es : List Expr} {k : Nat} {t : TGs} {n : Nat} (hc : X.calm = true) (h : PGs X es t)
    (hn : (assignEach es X.env).length = n := by rfl) (hst : (assignEach es X.env).findIdx? (·.1) = none := by rfl) : PG X (.Tuple es k pos) (gTup X.K n t) := by
  intro pins s σ H v u Q I r hw
  obtain ⟨a, xs, e1, hq, hl, hw⟩ := hw
  subst e1
  cases r
  obtain ⟨its, rv, ht, hz⟩ := I.tuple hq
  refine assign_Tuple_tuple (I.ok.hd hc) ht (by simp [hn, ← hl, rv.length]) hst fun h' hx => ?_
  have I1 : Inv X pins σ H { s with heap := h' } := I.kept (t' := s.toks) fun b o e => hx b o (Nat.ne_of_lt (Heap.lt_size e)) e
  exact h pins _ σ H xs _ Q I1 (by simpa using rv) hw
/-- target = value -/
def tAsg (te : TE) (g : TG) : TS := fun D σ H => te σ H fun x H1 => g x σ H1 D.nx
theorem ps_asg {tg e : Expr} {te : TE} {g : TG} (he : PE X e te) (hg : PG X tg g) (hs : swapsWithSole [tg] e pos.line X.env = pure false := by rfl) (hw : swappedStores [tg] e X.env = pure none := by rfl)
    (h1 : (assignEach [tg] X.env).map (·.2) = [assign tg X.env] := by rfl) : PS X (.Assign [tg] e pos) (tAsg te g) := by
  intro pins s σ H D I h
  refine wpAny_Assign_stores (thn (he pins s σ H _ I h) fun v s1 ⟨x, H1, I1, r1, q1⟩ => ?_) hs hw
  rw [h1]
  exact thn (hg pins s1 σ H1 x v _ I1 r1 q1) fun _ s2 q => q
/-- name = value -/
theorem ps_set {i : Nat} {x : Str} {e : Expr} {te : TE} {pos' : Pos} (hN : X.N.Nodup) (hi : X.N[i]? = some x) (hx : Loc X.env.scope x) (he : PE X e te) (hs : swapsWith e (some (.Name x pos')) pos.line X.env = pure false := by rfl) (hf : X.fn x = true ∨ X.env.scope.names.lookup x = some .local := by first | exact .inl rfl | exact .inr rfl | assumption) :
    PS X (.Assign [.Name x pos'] e pos) (tAsg te (gName i)) := by
  intro pins s σ H D I h
  refine wpAny_Assign_Name (thn (he pins s σ H _ I h) fun v s1 ⟨y, H1, I1, r1, q1⟩ => ?_) hs
  exact store_ok I1 hN hi hx r1 (fun s2 I2 => ⟨_, H1, I2, q1⟩) hf
end

/-! ### while -/
section
variable {X : Cx} {pos : Pos}
end

/-! ### what a loop or a comprehension walks -/
/-- at turn i: it yields x (the heap may grow), or it stops -/
structure It where
  go : Nat → Hp → Prop
  yld : Nat → Hp → V → Hp → Prop
  stop : Nat → Hp → Prop
/-- the iterator's own objects may turn: they are not the frame's, not pinned, younger than the entry (or a comprehension's own) -/
def FpOk (X : Cx) (pins : List (Addr × Obj)) (H : Hp) (b : Addr) : Prop :=
  H b = none ∧ b ≠ X.env.locals ∧ b ∉ X.fs ∧ (b ∈ X.ex ∨ X.s₀.heap.objs.size ≤ b) ∧ (∀ x c, X.env.cells.lookup x = some c → c ≠ b) ∧ ∀ p ∈ X.pn ++ pins, p.1 ≠ b
theorem Inv.fpOk {X : Cx} {pins : List (Addr × Obj)} {σ : St} {H H' : Hp} {s : Shared} {b : Addr} (I : Inv X pins σ H s) (hb : s.heap.objs.size ≤ b) (hn : H' b = none) : FpOk X pins H' b := by
  refine ⟨hn, Nat.ne_of_gt (Nat.lt_of_lt_of_le I.lt hb), I.nofs hb, .inr (Nat.le_trans I.sz hb), fun x c e z => ?_, fun p hp z => ?_⟩
  · obtain ⟨v, q⟩ := I.cell x c e
    exact absurd (Nat.lt_of_lt_of_le q.lt (by rw [z]; exact hb)) (Nat.lt_irrefl _)
  · exact absurd (Nat.lt_of_lt_of_le (Heap.lt_size (I.pin p hp).1) (by rw [z]; exact hb)) (Nat.lt_irrefl _)
structure Turn (P : Program) (w : World) (K : PySem.W.Frag) (tg : Expr) (J : It) (fp : List Addr) (it : Addr) (tn : Nat → Heap → Prop) : Prop where
  mem : it ∈ fp
  obj : ∀ i h, tn i h → ∀ b ∈ fp, ∃ o, h.get? b = some o ∧ ∀ v, o.data ≠ .cell v
  keep : ∀ i h h', tn i h → (∀ b ∈ fp, ∀ o, h.get? b = some o → h'.get? b = some o) → tn i h'
  item : ∀ (X : Cx), X.prog = P → X.w = w → X.K = K → X.calm = true → ∀ (i : Nat) (pins : List (Addr × Obj)) (s : Shared) (σ : St) (H : Hp) (E : Value → Shared → Prop), Inv X pins σ H s → (∀ b ∈ fp, FpOk X pins H b) → tn i s.heap → J.go i H →
    wpAny (model P w) X.A (pyNext (.ref it)) (fun r s1 => ∃ u, r = some u ∧
      wpAny (model P w) X.A (letOwnedTupleGo tg (.ref it) u) (fun _ s2 => ∃ x H', Inv X pins σ H' s2 ∧ RelV x u ∧ J.yld i H x H' ∧ tn (i + 1) s2.heap ∧ ∀ b ∈ fp, H' b = none) E s1) E s
  done : ∀ (X : Cx), X.prog = P → X.w = w → X.K = K → X.calm = true → ∀ (i : Nat) (pins : List (Addr × Obj)) (s : Shared) (σ : St) (H : Hp) (E : Value → Shared → Prop), Inv X pins σ H s → (∀ b ∈ fp, FpOk X pins H b) → tn i s.heap → J.stop i H →
    wpAny (model P w) X.A (pyNext (.ref it)) (fun r s1 => r = none ∧ Inv X pins σ H s1) E s
  self : ∀ (A : Around) (i : Nat) (s : Shared) (Q : Value → Shared → Prop) (E : Value → Shared → Prop), tn i s.heap → Q (.ref it) s → wpAny (model P w) A (pyIter (.ref it)) Q E s
abbrev TI := St → Hp → (It → Hp → Prop) → Prop
/-- an iterator has come -/
def PIE (X : Cx) (pins : List (Addr × Obj)) (σ : St) (tg : Expr) (R : It → Hp → Prop) (itv : Value) (s2 : Shared) : Prop :=
  ∃ (it : Addr) (fp : List Addr) (tn : Nat → Heap → Prop) (J : It) (H' : Hp), itv = .ref it ∧ Inv X pins σ H' s2 ∧ Turn X.prog X.w X.K tg J fp it tn ∧ tn 0 s2.heap ∧ (∀ b ∈ fp, FpOk X pins H' b) ∧ R J H'
def PI (X : Cx) (tg iter : Expr) (wi : TI) : Prop :=
  ∀ (pins : List (Addr × Obj)) (s : Shared) (σ : St) (H : Hp) (R : It → Hp → Prop), Inv X pins σ H s → wi σ H R →
    wpAny (model X.prog X.w) X.A (eval iter X.env) (fun v s1 => wpAny (model X.prog X.w) X.A (pyIter v) (PIE X pins σ tg R) X.xe s1) X.xe s

/-- the step ahead of the store is nothing for an iterator that keeps no tuple -/
theorem go_of {M : Model} {A : Around} {E : Value → Shared → Prop} {s : Shared} {tg : Expr} {it : Addr} {u : Value} {o : Obj} {n : String} {vs : Array Value} {Q : Unit → Shared → Prop} (ho : s.heap.get? it = some o) (hc : o.cls = .type n) (hd : o.data = .fields vs)
    (hn : ["enumerate", "zip", "dict_itemiterator", "dict_reverseitemiterator", "odict_iterator", "itertools.zip_longest", "itertools.pairwise"].contains n = false) (hQ : Q () s) : wpAny M A (letOwnedTupleGo tg (.ref it) u) Q E s := by
  unfold letOwnedTupleGo
  cases tg <;> first
    | exact wpAny_pure hQ
    | (cases u <;> first
        | exact wpAny_pure hQ
        | (refine wpAny_bind (wpAny_load ho ?_)
           rw [hc, hd]
           show wpAny M A (if (["enumerate", "zip", "dict_itemiterator", "dict_reverseitemiterator", "odict_iterator", "itertools.zip_longest", "itertools.pairwise"].contains n && vs[0]? == some (rawInt _)) = true then _ else _) Q E s
           rw [if_neg (by intro h; rw [hn, Bool.false_and] at h; cases h)]
           exact wpAny_pure hQ))

/-- the list at a, as it stands at each turn (a loop may append to it) -/
def Itl (K : PySem.W.Frag) (a : Addr) : It :=
  ⟨fun i H => ∃ xs x, SqL K H a xs ∧ xs[i]? = some x, fun i H x H' => H' = H ∧ ∀ xs, SqL K H a xs → xs[i]? = some x, fun i H => ∃ xs, SqL K H a xs ∧ xs.length ≤ i⟩
/-- lo, lo + 1, .. (n of them) -/
def Itr (lo : Int) (n : Nat) : It := ⟨fun i _ => i < n, fun i H x H' => H' = H ∧ x = .int (lo + i), fun i _ => n ≤ i⟩
theorem turn_list {P : Program} {w : World} {K : PySem.W.Frag} {tg : Expr} (a it : Addr) : Turn P w K tg (Itl K a) [it] it (fun i h => h.IsListIter it a i) where
  mem := by simp
  obj := fun i h st b hb => by
    have e : b = it := by simpa using hb
    subst e
    obtain ⟨o, e, c, d⟩ := st
    exact ⟨o, e, fun v z => by rw [d] at z; cases z⟩
  keep := fun i h h' st k => st.at fun o e => k it (by simp) o e
  item := by
    intro X hP hw hK hc i pins s σ H E I hf st hg
    subst hP hw hK
    obtain ⟨xs, x, hq, hx⟩ := hg
    obtain ⟨its, rv, p, hz⟩ := I.list hq
    obtain ⟨u, hu, ru⟩ := rv.get hx
    obtain ⟨f0, f1, f2, f3, f4, f5⟩ := hf it (by simp)
    refine wpAny_pyNext_list_item st p.isList (x := u) (by simpa using hu) fun h' st' sb => ?_
    have I1 : Inv X pins σ H { s with heap := h' } := I.turned (t' := s.toks) (fun b o hb e => (sb.2 b hb).trans e) f0 f1 f3 f4 f5
    obtain ⟨o, e, c, d⟩ := id st'
    exact ⟨u, rfl, go_of (s := { s with heap := h' }) e c d (by decide) ⟨x, H, I1, ru, ⟨rfl, fun ys hy => by rw [I.list_inj hy hq]; exact hx⟩, st', fun b hb => (hf b hb).1⟩⟩
  done := by
    intro X hP hw hK hc i pins s σ H E I hf st hg
    subst hP hw hK
    obtain ⟨xs, hq, hx⟩ := hg
    obtain ⟨its, rv, p, hz⟩ := I.list hq
    obtain ⟨f0, f1, f2, f3, f4, f5⟩ := hf it (by simp)
    have hl := rv.length
    exact wpAny_pyNext_list_end (I.ok.hd hc) st p.isList (by simp; omega) fun h' eb => ⟨rfl, I.turned (t' := s.toks) (fun b o hb e => eb b o hb e) f0 f1 f3 f4 f5⟩
  self := fun _ _ _ _ _ st h => wpAny_pyIter_listiter st h
theorem turn_range {P : Program} {w : World} {K : PySem.W.Frag} {tg : Expr} (it : Addr) (lo : Int) (n : Nat) : Turn P w K tg (Itr lo n) [it] it (fun i h => IsRangeIter h it (lo + (i : Nat) * 1) ((n : Int) - (i : Nat)) 1) where
  mem := by simp
  obj := fun i h st b hb => by
    have e : b = it := by simpa using hb
    subst e
    exact ⟨_, st, fun v z => by
      have z' : Data.fields _ = Data.cell v := z
      cases z'⟩
  keep := fun i h h' st k => k it (by simp) _ st
  item := by
    intro X hP hw hK hc i pins s σ H E I hf st hg
    subst hP hw hK
    obtain ⟨f0, f1, f2, f3, f4, f5⟩ := hf it (by simp)
    have W := Walks.range (prog := X.prog) (w := X.w) (I.ok.hd hc) it lo 1 n
    refine W.item i s _ _ hg st fun v h' tk hv st' kk => ?_
    obtain ⟨t, rfl⟩ := hv
    have I1 : Inv X pins σ H { s with heap := h', toks := tk } := I.turned (fun b o hb e => kk b o (by simpa using hb) e) f0 f1 f3 f4 f5
    refine ⟨_, rfl, go_of (s := { s with heap := h', toks := tk }) (n := "range_iterator") st' rfl rfl (by decide) ⟨.int (lo + i), H, I1, ⟨t, ?_⟩, ⟨rfl, rfl⟩, st', fun b hb => (hf b hb).1⟩⟩
    rw [Int.mul_one]
  done := by
    intro X hP hw hK hc i pins s σ H E I hf st hg
    subst hP hw hK
    obtain ⟨f0, f1, f2, f3, f4, f5⟩ := hf it (by simp)
    exact wpAny_pyNext_range_end (I.ok.hd hc) st (by have : n ≤ i := hg; omega) fun h' eb => ⟨rfl, I.turned (t' := s.toks) (fun b o hb e => eb b o hb e) f0 f1 f3 f4 f5⟩
  self := fun _ _ _ _ _ st h => wpAny_pyIter_rangeiter st h
end L2

namespace L2
open PySem PySem.Spec PyProof.Rows
section
variable {X : Cx} {tg : Expr}
def iList (K : PySem.W.Frag) (tl : TE) : TI := fun σ H R => tl σ H fun x H1 => ∃ a, x = .ref a ∧ (∃ xs, SqL K H1 a xs) ∧ R (Itl K a) H1
theorem pi_list {l : Expr} {tl : TE} (hl : PE X l tl) : PI X tg l (iList X.K tl) := by
  intro pins s σ H R I h
  refine thn (hl pins s σ H _ I h) fun v s1 ⟨x, H1, I1, r1, q1⟩ => ?_
  obtain ⟨a, e, ⟨xs, hq⟩, q⟩ := q1
  subst e
  cases r1
  obtain ⟨its, rv, p, hz⟩ := I1.list hq
  refine wpAny_pyIter_list p.isList ?_
  refine ⟨s1.heap.objs.size, [s1.heap.objs.size], _, _, H1, rfl, I1.kept (t' := s1.toks) fun b o e => Heap.get?_push_of_some _ e, turn_list a _, ⟨_, Heap.get?_push_size _ rfl, rfl, rfl⟩, fun b hb => ?_, q⟩
  have e : b = s1.heap.objs.size := by simpa using hb
  subst e
  exact I1.fpOk (Nat.le_refl _) (I1.hok.fresh (Nat.le_refl _))
/-- a range object just made, walked -/
theorem range_it {pins : List (Addr × Obj)} {σ : St} {H : Hp} {s : Shared} {R : It → Hp → Prop} {E : Value → Shared → Prop} {lo hi : Int} {t u v : Tok} {tk : Nat} (I : Inv X pins σ H s) (h1 : -(2 ^ 62) ≤ lo) (h2 : lo < 2 ^ 62) (h3 : -(2 ^ 62) ≤ hi) (h4 : hi < 2 ^ 62)
    (q : R (Itr lo (hi - lo).toNat) H) : wpAny (model X.prog X.w) X.A (pyIter (.ref s.heap.objs.size)) (PIE X pins σ tg R) E { s with heap := s.heap.push { cls := .type "range", data := .fields #[.int lo t, .int hi u, .int 1 v] }, toks := tk } := by
  refine wpAny_pyIter_range (IsRange.new ..) (small_one h1 h2 h3 h4) ?_
  have I1 : Inv X pins σ H { s with heap := s.heap.push { cls := .type "range", data := .fields #[.int lo t, .int hi u, .int 1 v] }, toks := tk } := I.kept fun b o e => Heap.get?_push_of_some _ e
  refine ⟨(s.heap.push { cls := .type "range", data := .fields #[.int lo t, .int hi u, .int 1 v] }).objs.size, [(s.heap.push { cls := .type "range", data := .fields #[.int lo t, .int hi u, .int 1 v] }).objs.size], _, _, H, rfl,
    I1.kept (t' := tk) fun b o e => Heap.get?_push_of_some _ e, turn_range _ lo (hi - lo).toNat, ?_, fun b hb => ?_, q⟩
  · have e1 : lo + ((0 : Nat) : Int) * 1 = lo := by simp
    have e2 : (((hi - lo).toNat : Nat) : Int) - ((0 : Nat) : Int) = Builtin.Range.rangeSize lo hi 1 := by rw [rangeSize_one]; split <;> omega
    show IsRangeIter _ _ (lo + ((0 : Nat) : Int) * 1) ((((hi - lo).toNat : Nat) : Int) - ((0 : Nat) : Int)) 1
    rw [e1, e2]
    exact Heap.get?_push_size _ rfl
  · have e : b = (s.heap.push { cls := .type "range", data := .fields #[.int lo t, .int hi u, .int 1 v] }).objs.size := by simpa using hb
    subst e
    exact I1.fpOk (Nat.le_refl _) (I1.hok.fresh (Nat.le_refl _))
def iRng1 (ta : TA) : TI := fun σ H R => ta σ H fun vs H1 => ∃ j : Int, vs = [.int j] ∧ -(2 ^ 62) ≤ j ∧ j < 2 ^ 62 ∧ R (Itr 0 j.toNat) H1
def iRng2 (ta : TA) : TI := fun σ H R => ta σ H fun vs H1 => ∃ i j : Int, vs = [.int i, .int j] ∧ (-(2 ^ 62) ≤ i ∧ i < 2 ^ 62 ∧ -(2 ^ 62) ≤ j ∧ j < 2 ^ 62) ∧ R (Itr i (j - i).toNat) H1
theorem pi_range1 {a : Expr} {ta : TA} {p pos : Pos} (hg : Gl X "range") (hm : X.mg "range" = none) (ha : PA X [a] ta) (hs : starEach [a] X.env = [(false, eval a X.env)] := by rfl) : PI X tg (.Call (.Name "range" p) [a] [] pos) (iRng1 ta) := by
  intro pins s σ H R I h
  refine Call_ (ld_blt I hg hm boot_range (PyProof.Rows.callWith_type1 (thn (ha pos pins s σ H _ I h) fun us s1 ⟨vs, H1, I1, r1, q1⟩ => ?_) hs rfl))
  obtain ⟨j, e, q1, q2, q⟩ := q1
  subst e
  cases r1 with
  | cons r rr =>
    cases rr
    obtain ⟨t, rfl⟩ := r
    exact call_range_1 (range_it I1 (by omega) (by omega) q1 q2 (by simpa using q))
theorem pi_range2 {a b : Expr} {ta : TA} {p pos : Pos} (hg : Gl X "range") (hm : X.mg "range" = none) (ha : PA X [a, b] ta) (hs : starEach [a, b] X.env = [(false, eval a X.env), (false, eval b X.env)] := by rfl) (hs2 : starEach [b] X.env = [(false, eval b X.env)] := by rfl) :
    PI X tg (.Call (.Name "range" p) [a, b] [] pos) (iRng2 ta) := by
  intro pins s σ H R I h
  refine Call_ (ld_blt I hg hm boot_range (PyProof.Rows.callWith_type1 (thn (ha pos pins s σ H _ I h) fun us s1 ⟨vs, H1, I1, r1, q1⟩ => ?_) (by rw [hs, hs2]) (by rw [hs2]; rfl)))
  obtain ⟨i, j, e, ⟨q1, q2, q3, q4⟩, q⟩ := q1
  subst e
  cases r1 with
  | cons r rr =>
    cases rr with
    | cons r' rr =>
      cases rr
      obtain ⟨t, rfl⟩ := r
      obtain ⟨t', rfl⟩ := r'
      exact call_range_2 (range_it I1 q1 q2 q3 q4 q)

/-! ### for -/
/-- W: the invariant by the turn and a measure; N: what the body is to reach -/
def tFor (wi : TI) (g : TG) (tb : TS) : TS := fun D σ H => wi σ H fun J H1 => ∃ W : Nat → Nat → St → Hp → Prop, (∃ m, W 0 m σ H1) ∧ ∀ i m σ H, W i m σ H →
  (J.stop i H ∧ D.nx σ H) ∨ (J.go i H ∧ ∃ N : St → Hp → Prop, (∀ σ' H', N σ' H' → ∃ m', m' < m ∧ W (i + 1) m' σ' H') ∧ ∀ x H', J.yld i H x H' → g x σ H' fun σ2 H2 => tb { D with nx := N, ct := N, bk := D.nx } σ2 H2)
/-- the records at fp as they stand -/
def pinsAt (fp : List Addr) (h : Heap) : List (Addr × Obj) := fp.filterMap fun b => (h.get? b).map fun o => (b, o)
theorem mem_pinsAt {fp : List Addr} {h : Heap} {b : Addr} {o : Obj} (hb : b ∈ fp) (e : h.get? b = some o) : (b, o) ∈ pinsAt fp h := List.mem_filterMap.mpr ⟨b, hb, by rw [e]; rfl⟩
theorem of_pinsAt {fp : List Addr} {h : Heap} {p : Addr × Obj} (hp : p ∈ pinsAt fp h) : p.1 ∈ fp ∧ h.get? p.1 = some p.2 := by
  obtain ⟨b, hb, e⟩ := List.mem_filterMap.mp hp
  cases q : h.get? b with
  | none => rw [q] at e; cases e
  | some o =>
    rw [q] at e
    have e' : (b, o) = p := Option.some.inj e
    subst e'
    exact ⟨hb, q⟩
theorem Inv.pinned {pins : List (Addr × Obj)} {σ : St} {H : Hp} {s : Shared} {fp : List Addr} (I : Inv X pins σ H s) (hf : ∀ b ∈ fp, FpOk X pins H b) (ho : ∀ b ∈ fp, ∃ o, s.heap.get? b = some o ∧ ∀ v, o.data ≠ .cell v) : Inv X (pins ++ pinsAt fp s.heap) σ H s :=
  I.pins_of fun p hp => (List.mem_append.mp hp).elim (fun z => I.pin p (List.mem_append_right _ z)) fun z => by
    obtain ⟨hb, e⟩ := of_pinsAt z
    obtain ⟨f0, f1, f2, _⟩ := hf p.1 hb
    obtain ⟨o, e', d⟩ := ho p.1 hb
    rw [e] at e'; cases e'
    exact ⟨e, f0, f1, f2, d⟩
theorem Inv.unpinned {pins pl : List (Addr × Obj)} {σ : St} {H : Hp} {s : Shared} (I : Inv X (pins ++ pl) σ H s) : Inv X pins σ H s := I.pins_of fun p hp => I.pin p (List.mem_append_right _ (List.mem_append_left _ hp))
theorem ps_for {iter : Expr} {body : List Stmt} {wi : TI} {g : TG} {tb : TS} {pos : Pos} (hp : PassesOwn (model X.prog X.w) X.A X.env X.xe) (hc : X.calm = true) (hi : PI X tg iter wi) (hg : PG X tg g) (hb : PSs X body tb)
    (hs : ∀ x, foldedSetIterable iter X.env x = pure x := by intro _; rfl) : PS X (.For tg iter body [] pos) (tFor wi g tb) := by
  intro pins s σ H D I h
  refine wpAny_For (thn (hi pins s σ H _ I h) fun v s1 h1 => thn h1 fun itv s2 h2 => ?_) hs
  obtain ⟨it, fp, tn, J, H2, e, I2, T, st2, f2, W, ⟨m0, w0⟩, turn⟩ := h2
  subst e
  -- what stays true of the iterator's objects through the loop
  have stat : ∀ {H' : Hp}, (∀ b ∈ fp, H' b = none) → ∀ b ∈ fp, FpOk X pins H' b := fun hn b hb => ⟨hn b hb, (f2 b hb).2⟩
  refine codeAny_forLoop_any (fun n s' => ∃ i σ' H', Inv X pins σ' H' s' ∧ tn i s'.heap ∧ (∀ b ∈ fp, H' b = none) ∧ W i n σ' H') ?_ m0 ⟨0, σ, H2, I2, st2, fun b hb => (f2 b hb).1, w0⟩
  rintro n s3 ⟨i, σ3, H3, I3, st3, fr3, w3⟩
  rcases turn i n σ3 H3 w3 with ⟨stop, qn⟩ | ⟨go, N, hN, step⟩
  · refine wpAny_passesOwn hp (thn (T.done X rfl rfl rfl hc i pins s3 σ3 H3 X.xe I3 (stat fr3) st3 stop) fun r s4 ⟨hr, I4⟩ => ?_)
    subst hr
    exact wpAny_execs_nil ⟨σ3, H3, I4, qn⟩
  · refine wpAny_passesOwn hp (thn (T.item X rfl rfl rfl hc i pins s3 σ3 H3 X.xe I3 (stat fr3) st3 go) fun r s4 ⟨u, hr, h4⟩ => ?_)
    subst hr
    refine wpAny_passesOwn hp (thn h4 fun _ s5 ⟨x, H5, I5, r5, y5, st5, fr5⟩ => ?_)
    have I5' := I5.pinned (stat fr5) (T.obj _ _ st5)
    refine wpAny_passesOwn hp (thn (hg _ s5 σ3 H5 x u _ I5' r5 (step x H5 y5)) fun _ s6 ⟨σ6, H6, I6, q6⟩ => ?_)
    refine wpAny_passesOwn hp (thn (hb _ s6 σ6 H6 _ I6 q6) fun f s7 q7 => ?_)
    have again : ∀ {σ7 : St} {H7 : Hp}, Inv X (pins ++ pinsAt fp s5.heap) σ7 H7 s7 → N σ7 H7 → ∃ m, m < n ∧ ∃ i σ' H', Inv X pins σ' H' s7 ∧ tn i s7.heap ∧ (∀ b ∈ fp, H' b = none) ∧ W i m σ' H' := fun {σ7 H7} I7 n7 => by
      obtain ⟨m', hm, w7⟩ := hN σ7 H7 n7
      refine ⟨m', hm, i + 1, σ7, H7, I7.unpinned, T.keep _ _ _ st5 fun b hb o e => (I7.pin (b, o) (List.mem_append_right _ (List.mem_append_right _ (mem_pinsAt hb e)))).1, fun b hb => ?_, w7⟩
      obtain ⟨o, e, d⟩ := T.obj _ _ st5 b hb
      exact (I7.pin (b, o) (List.mem_append_right _ (List.mem_append_right _ (mem_pinsAt hb e)))).2.1
    cases f with
    | next => obtain ⟨σ7, H7, I7, n7⟩ := q7; exact again I7 n7
    | cont => obtain ⟨σ7, H7, I7, n7⟩ := q7; exact again I7 n7
    | brk => obtain ⟨σ7, H7, I7, q7⟩ := q7; exact ⟨σ7, H7, I7.unpinned, q7⟩
    | ret v => obtain ⟨x7, σ7, H7, I7, r7, q7⟩ := q7; exact ⟨x7, σ7, H7, I7.unpinned, r7, q7⟩
end

/-! ### the forms one uses -/
end L2

namespace L2
open PySem PySem.Spec PyProof.Rows

abbrev R2 := V → V → Hp → VK → Prop
/-- a two-place operation on values: f is binaryOp op, inplaceOp op or compareOp op -/
def OpR (X : Cx) (f : Value → Value → Sem Value) (r : R2) : Prop :=
  ∀ (pins : List (Addr × Obj)) (s : Shared) (σ : St) (H : Hp) (x y : V) (v u : Value) (Q : VK), Inv X pins σ H s → RelV x v → RelV y u → r x y H Q →
    wpAny (model X.prog X.w) X.A (f v u) (EP X pins σ Q) X.xe s
/-- a one-place operation -/
def UnR (X : Cx) (f : Value → Sem Value) (r : V → Hp → VK → Prop) : Prop :=
  ∀ (pins : List (Addr × Obj)) (s : Shared) (σ : St) (H : Hp) (x : V) (v : Value) (Q : VK), Inv X pins σ H s → RelV x v → r x H Q →
    wpAny (model X.prog X.w) X.A (f v) (EP X pins σ Q) X.xe s
/-- a call of a value that is known (a builtin, a type) with values -/
def CallR (X : Cx) (f : Value) (r : List V → Hp → VK → Prop) : Prop :=
  ∀ (pins : List (Addr × Obj)) (s : Shared) (σ : St) (H : Hp) (xs : List V) (us : List Value) (Q : VK), Inv X pins σ H s → Vals xs us → r xs H Q →
    wpAny (model X.prog X.w) X.A (call f us) (EP X pins σ Q) X.xe s
def tOp (r : R2) (ta tb : TE) : TE := fun σ H Q => ta σ H fun x H1 => tb σ H1 fun y H2 => r x y H2 Q
def tUn (r : V → Hp → VK → Prop) (ta : TE) : TE := fun σ H Q => ta σ H fun x H1 => r x H1 Q
/-- ints in, under C, and a value out -/
def rI (C : Int → Int → Prop) (g : Int → Int → V) : R2 := fun x y H Q => ∃ i j, x = .int i ∧ y = .int j ∧ C i j ∧ Q (g i j) H
def rI0 (g : Int → Int → V) : R2 := fun x y H Q => ∃ i j, x = .int i ∧ y = .int j ∧ Q (g i j) H
def rU (g : Int → V) : V → Hp → VK → Prop := fun x H Q => ∃ i, x = .int i ∧ Q (g i) H

section
variable {X : Cx} {a b c : Expr} {ta tb tc : TE} {pos : Pos}

theorem binT (ha : PE X a ta) (hb : PE X b tb) {pins : List (Addr × Obj)} {s : Shared} {σ : St} {H : Hp} {R : V → V → Hp → Prop} (I : Inv X pins σ H s)
    (h : ta σ H fun x H1 => tb σ H1 fun y H2 => R x y H2) {Q : Value → Shared → Prop} {f : Value → Value → Sem Value}
    (hf : ∀ v u s2 x y H2, Inv X pins σ H2 s2 → RelV x v → RelV y u → R x y H2 → wpAny (model X.prog X.w) X.A (f v u) Q X.xe s2) :
    wpAny (model X.prog X.w) X.A (eval a X.env) (fun v s₁ => wpAny (model X.prog X.w) X.A (eval b X.env) (fun u s₂ => wpAny (model X.prog X.w) X.A (f v u) Q X.xe s₂) X.xe s₁) X.xe s := by
  refine thn (ha pins s σ H _ I h) fun v s1 ⟨x, H1, I1, r1, q1⟩ => ?_
  refine thn (hb pins s1 σ H1 _ I1 q1) fun u s2 ⟨y, H2, I2, r2, q2⟩ => ?_
  exact hf v u s2 x y H2 I2 r1 r2 q2

theorem pe_op {op : Operator} {r : R2} (ho : OpR X (binaryOp op) r) (ha : PE X a ta) (hb : PE X b tb) : PE X (.BinOp a op b pos) (tOp r ta tb) := by
  intro pins s σ H Q I h
  exact wpAny_BinOp (binT ha hb I h fun v u s2 x y H2 I2 rx ry q => ho pins s2 σ H2 x y v u Q I2 rx ry q)
theorem pe_un {op : UnaryOp} {r : V → Hp → VK → Prop} (ho : UnR X (unaryOp op) r) (ha : PE X a ta) : PE X (.UnaryOp op a pos) (tUn r ta) := by
  intro pins s σ H Q I h
  exact UnaryOp_ (thn (ha pins s σ H _ I h) fun v s1 ⟨x, H1, I1, r1, q1⟩ => ho pins s1 σ H1 x v Q I1 r1 q1)
/-! ### ints -/
theorem opI {f : Value → Value → Sem Value} {C : Int → Int → Prop} {g : Int → Int → Int}
    (rule : ∀ (i j : Int) (t u : Tok) (s : Shared) (Q : Value → Shared → Prop) (E : Value → Shared → Prop), C i j → Q (.int (g i j) s.toks) { s with toks := s.toks + 1 } → wpAny (model X.prog X.w) X.A (f (.int i t) (.int j u)) Q E s) :
    OpR X f (rI C fun i j => .int (g i j)) := by
  intro pins s σ H x y v u Q I rx ry h
  obtain ⟨i, j, rfl, rfl, hc, q⟩ := h
  obtain ⟨t, rfl⟩ := rx
  obtain ⟨t', rfl⟩ := ry
  exact rule i j t t' s _ _ hc ⟨.int (g i j), H, I.tok _, ⟨_, rfl⟩, q⟩
theorem opI0 {f : Value → Value → Sem Value} {g : Int → Int → Int}
    (rule : ∀ (i j : Int) (t u : Tok) (s : Shared) (Q : Value → Shared → Prop) (E : Value → Shared → Prop), Q (.int (g i j) s.toks) { s with toks := s.toks + 1 } → wpAny (model X.prog X.w) X.A (f (.int i t) (.int j u)) Q E s) :
    OpR X f (rI0 fun i j => .int (g i j)) := by
  intro pins s σ H x y v u Q I rx ry h
  obtain ⟨i, j, rfl, rfl, q⟩ := h
  obtain ⟨t, rfl⟩ := rx
  obtain ⟨t', rfl⟩ := ry
  exact rule i j t t' s _ _ ⟨.int (g i j), H, I.tok _, ⟨_, rfl⟩, q⟩
theorem opB0 {f : Value → Value → Sem Value} {g : Int → Int → Bool}
    (rule : ∀ (i j : Int) (t u : Tok) (s : Shared) (Q : Value → Shared → Prop) (E : Value → Shared → Prop), Q (.bool (g i j)) s → wpAny (model X.prog X.w) X.A (f (.int i t) (.int j u)) Q E s) :
    OpR X f (rI0 fun i j => .bl (g i j)) := by
  intro pins s σ H x y v u Q I rx ry h
  obtain ⟨i, j, rfl, rfl, q⟩ := h
  obtain ⟨t, rfl⟩ := rx
  obtain ⟨t', rfl⟩ := ry
  exact rule i j t t' s _ _ ⟨.bl (g i j), H, I, rfl, q⟩

def CDiv (i j : Int) : Prop := 0 < j ∧ j < 1073741824
def CPow (i j : Int) : Prop := 0 ≤ j ∧ j ≤ 1000000 ∧ i.natAbs < 2 ^ 64
def CMul (i j : Int) : Prop := (-(2 ^ 64) < i ∧ i < 2 ^ 64) ∨ (-(2 ^ 64) < j ∧ j < 2 ^ 64)
theorem CMul.ok {i j : Int} (h : CMul i j) : IntMulOk i j := by
  rcases h with ⟨h1, h2⟩ | ⟨h1, h2⟩
  · exact .of_left (intBits_le_64 h1 h2)
  · exact .of_right (intBits_le_64 h1 h2)
theorem op_add : OpR X (binaryOp .Add) (rI0 fun i j => .int (i + j)) := opI0 fun _ _ _ _ _ _ _ q => add_int q
/-- // by a positive divisor -/
theorem op_fdiv : OpR X (binaryOp .FloorDiv) (rI CDiv fun i j => .int (i / j)) := opI fun i j _ _ _ _ _ hc q => by
  have h1 : (0 : Int) < j := hc.1
  have h2 : j < 1073741824 := hc.2
  exact floordiv_int (by omega) (by rw [Int.fdiv_eq_ediv_of_nonneg i (by omega)]; exact q) (.inl (PyProof.noPylong_small (by omega)))
/-- % by a positive divisor of any size -/
theorem op_mod : OpR X (binaryOp .Mod) (rI (fun _ j => 0 < j) fun i j => .int (i % j)) := opI fun i j _ _ _ _ _ hc q => by
  have h1 : (0 : Int) < j := hc
  exact mod_int' (by omega) (by rw [Int.fmod_eq_emod_of_nonneg i (by omega)]; exact q)
theorem op_pow : OpR X (binaryOp .Pow) (rI CPow fun i j => .int (i ^ j.toNat)) := opI fun _ _ _ _ _ _ _ hc q => pow_int_small hc.1 hc.2.1 hc.2.2 q
theorem unI {f : Value → Sem Value} {g : Int → Int}
    (rule : ∀ (i : Int) (t : Tok) (s : Shared) (Q : Value → Shared → Prop) (E : Value → Shared → Prop), Q (.int (g i) s.toks) { s with toks := s.toks + 1 } → wpAny (model X.prog X.w) X.A (f (.int i t)) Q E s) :
    UnR X f (rU fun i => .int (g i)) := by
  intro pins s σ H x v Q I rx h
  obtain ⟨i, rfl, q⟩ := h
  obtain ⟨t, rfl⟩ := rx
  exact rule i t s _ _ ⟨.int (g i), H, I.tok _, ⟨_, rfl⟩, q⟩
theorem un_neg : UnR X (unaryOp .USub) (rU fun i => .int (-i)) := unI fun _ _ _ _ _ q => neg_int q
/-! ### bools among ints: n += (a < b) -/
end

/-! ### comparisons -/
/-- the scalars that == tells apart as data does -/
def scal : V → V → Bool
  | .non, .non => true | .non, .int _ => true | .int _, .non => true | .non, .bl _ => true | .bl _, .non => true | .non, .str _ => true | .str _, .non => true
  | .int _, .int _ => true | .bl _, .bl _ => true | .str _, .str _ => true | .byt _, .byt _ => true
  | .int _, .str _ => true | .str _, .int _ => true | .bl _, .str _ => true | .str _, .bl _ => true
  | _, _ => false
def rEq : R2 := fun x y H Q => scal x y = true ∧ Q (.bl (decide (x = y))) H
theorem dec_int {i j : Int} : decide (V.int i = V.int j) = (i == j) := by
  rw [Bool.eq_iff_iff]
  simp
theorem dec_bl {i j : Bool} : decide (V.bl i = V.bl j) = (i == j) := by
  rw [Bool.eq_iff_iff]
  simp
theorem dec_str {i j : Str} : decide (V.str i = V.str j) = (i == j) := by
  rw [Bool.eq_iff_iff]
  simp
theorem dec_byt {i j : Array UInt8} : decide (V.byt i = V.byt j) = (i.toList == j.toList) := by
  rw [Bool.eq_iff_iff]
  cases i
  cases j
  simp

section
variable {X : Cx} {a b c : Expr} {ta tb tc : TE} {pos : Pos}
theorem fin_bl {pins : List (Addr × Obj)} {σ : St} {H : Hp} {s : Shared} {Q : VK} {k k' : Bool} (I : Inv X pins σ H s) (q : Q (.bl k) H) (e : k = k') : EP X pins σ Q (.bool k') s := by
  subst e
  exact ⟨.bl k, H, I, rfl, q⟩
theorem op_eq : OpR X (compareOp .Eq) rEq := by
  intro pins s σ H x y v u Q I rx ry h
  obtain ⟨hs, q⟩ := h
  cases x with
  | non =>
    cases rx
    cases y with
    | non => cases ry; exact PySem.EqNone.eq_none_none (fin_bl I q (by simp))
    | bl j => cases ry; exact PySem.EqNone.eq_none_bool (fin_bl I q (by simp))
    | int j => obtain ⟨t', rfl⟩ := ry; exact PySem.EqNone.eq_none_int (fin_bl I q (by simp))
    | str j => obtain ⟨t', rfl⟩ := ry; exact PySem.EqNone.eq_none_str (fin_bl I q (by simp))
    | _ => exact absurd (show false = true from hs) Bool.false_ne_true
  | bl i =>
    cases rx
    cases y with
    | non => cases ry; exact PySem.EqNone.eq_bool_none (fin_bl I q (by simp))
    | bl j => cases ry; exact eq_bool (fin_bl I q dec_bl)
    | str j => obtain ⟨t', rfl⟩ := ry; exact PySem.EqMixed.eq_bool_str (fin_bl I q (by simp))
    | _ => exact absurd (show false = true from hs) Bool.false_ne_true
  | int i =>
    obtain ⟨t, rfl⟩ := rx
    cases y with
    | non => cases ry; exact PySem.EqNone.eq_int_none (fin_bl I q (by simp))
    | int j => obtain ⟨t', rfl⟩ := ry; exact eq_int (fin_bl I q dec_int)
    | str j => obtain ⟨t', rfl⟩ := ry; exact PySem.EqMixed.eq_int_str (fin_bl I q (by simp))
    | _ => exact absurd (show false = true from hs) Bool.false_ne_true
  | str i =>
    obtain ⟨t, rfl⟩ := rx
    cases y with
    | non => cases ry; exact PySem.EqNone.eq_str_none (fin_bl I q (by simp))
    | bl j => cases ry; exact PySem.EqMixed.eq_str_bool (fin_bl I q (by simp))
    | int j => obtain ⟨t', rfl⟩ := ry; exact PySem.EqMixed.eq_str_int (fin_bl I q (by simp))
    | str j => obtain ⟨t', rfl⟩ := ry; exact eq_str (fin_bl I q dec_str)
    | _ => exact absurd (show false = true from hs) Bool.false_ne_true
  | byt i =>
    obtain ⟨t, rfl⟩ := rx
    cases y with
    | byt j => obtain ⟨t', rfl⟩ := ry; exact PySem.W.eq_bytes (fin_bl I q dec_byt)
    | _ => exact absurd (show false = true from hs) Bool.false_ne_true
  | _ => cases y <;> exact absurd (show false = true from hs) Bool.false_ne_true
theorem op_lt : OpR X (compareOp .Lt) (rI0 fun i j => .bl (decide (i < j))) := opB0 fun _ _ _ _ _ _ _ q => lt_int q
theorem op_gt : OpR X (compareOp .Gt) (rI0 fun i j => .bl (decide (j < i))) := opB0 fun _ _ _ _ _ _ _ q => gt_int q
/-- two rules for one operation: by cases -/
theorem OpR.or {f : Value → Value → Sem Value} {r r' : R2} (h : OpR X f r) (h' : OpR X f r') : OpR X f (fun x y H Q => r x y H Q ∨ r' x y H Q) := by
  intro pins s σ H x y v u Q I rx ry q
  rcases q with q | q
  · exact h pins s σ H x y v u Q I rx ry q
  · exact h' pins s σ H x y v u Q I rx ry q

theorem nomark (b : Expr) {op : CmpOp} (h : op ≠ .In := by decide) (h2 : op ≠ .NotIn := by decide) : behindInMarks op b = false := by
  have e1 : (op == CmpOp.In) = false := by cases op <;> first | rfl | exact absurd rfl h
  have e2 : (op == CmpOp.NotIn) = false := by cases op <;> first | rfl | exact absurd rfl h2
  cases b <;> simp [behindInMarks, e1, e2]
/-- a comparison as a value; hm: nomark b, or (for in, not in) by with_unfolding_all rfl -/
theorem pe_cmpR {op : CmpOp} {r : R2} (ho : OpR X (compareOp op) r) (ha : PE X a ta) (hb : PE X b tb) (hm : behindInMarks op b = false) : PE X (.Compare a [op] [b] pos) (tOp r ta tb) := by
  intro pins s σ H Q I h
  exact wpAny_Compare1 (binT ha hb I h fun v u s2 x y H2 I2 rx ry q => ho pins s2 σ H2 x y v u Q I2 rx ry q) hm
/-- a reading of a value as a test -/
def tTest (t : TE) : TT := fun σ H Q => t σ H fun x H' => ∃ k, x = .bl k ∧ Q k H'
theorem pt_cmpR {op : CmpOp} {r : R2} (ho : OpR X (compareOp op) r) (ha : PE X a ta) (hb : PE X b tb) (hm : behindInMarks op b = false) : PT X (.Compare a [op] [b] pos) (tTest (tOp r ta tb)) := by
  intro pins s σ H Q I h
  refine wpAny_isTrue_Compare1 (thn (ha pins s σ H _ I h) fun v s1 ⟨x, H1, I1, r1, q1⟩ => thn (hb pins s1 σ H1 _ I1 q1) fun u s2 ⟨y, H2, I2, r2, q2⟩ =>
    thn (ho pins s2 σ H2 x y v u _ I2 r1 r2 q2) fun c s3 ⟨z, H3, I3, r3, k, e, q3⟩ => ?_) hm
  subst e
  cases r3
  exact wpAny_truthy_bool ⟨H3, I3, q3⟩
/-! ### truth -/
theorem line63 : (sizeLine : Nat) < 2 ^ 63 := by rw [sizeLine_eq]; decide
/-! ### strs and bytes -/
/-! ### scalar builtins, by CallR -/
theorem vals1 {x : V} {us : List Value} (r : Vals [x] us) : ∃ u, us = [u] ∧ RelV x u := by
  cases r with
  | cons r1 r2 => cases r2; exact ⟨_, rfl, r1⟩
theorem vals2 {x y : V} {us : List Value} (r : Vals [x, y] us) : ∃ u w', us = [u, w'] ∧ RelV x u ∧ RelV y w' := by
  cases r with
  | cons r1 r2 =>
    cases r2 with
    | cons r3 r4 => cases r4; exact ⟨_, _, rfl, r1, r3⟩
theorem call_max2 (hc : X.calm = true) : CallR X (.builtin "max") (fun xs H Q => ∃ i j, xs = [.int i, .int j] ∧ Q (.int (if j > i then j else i)) H) := by
  intro pins s σ H xs us Q I r h
  obtain ⟨i, j, rfl, q⟩ := h
  obtain ⟨u, w', rfl, ⟨t, rfl⟩, ⟨t', rfl⟩⟩ := vals2 r
  refine max_two_ints (I.ok.hd hc) fun h' tk k => ⟨_, H, I.kept k, ?_, q⟩
  by_cases hj : j > i
  · rw [if_pos hj, if_pos hj]; exact ⟨_, rfl⟩
  · rw [if_neg hj, if_neg hj]; exact ⟨_, rfl⟩
theorem call_min2 (hc : X.calm = true) : CallR X (.builtin "min") (fun xs H Q => ∃ i j, xs = [.int i, .int j] ∧ Q (.int (if j < i then j else i)) H) := by
  intro pins s σ H xs us Q I r h
  obtain ⟨i, j, rfl, q⟩ := h
  obtain ⟨u, w', rfl, ⟨t, rfl⟩, ⟨t', rfl⟩⟩ := vals2 r
  refine min_two_ints (I.ok.hd hc) fun h' tk k => ⟨_, H, I.kept k, ?_, q⟩
  by_cases hj : j < i
  · rw [if_pos hj, if_pos hj]; exact ⟨_, rfl⟩
  · rw [if_neg hj, if_neg hj]; exact ⟨_, rfl⟩
theorem call_int1 : CallR X (.type "int") (fun xs H Q => (∃ i, xs = [.int i] ∧ Q (.int i) H) ∨ ∃ k, xs = [.bl k] ∧ Q (.int (if k then 1 else 0)) H) := by
  intro pins s σ H xs us Q I r h
  rcases h with ⟨i, rfl, q⟩ | ⟨k, rfl, q⟩
  · obtain ⟨u, rfl, t, rfl⟩ := vals1 r
    exact call_int_int ⟨.int i, H, I, ⟨_, rfl⟩, q⟩
  · obtain ⟨u, rfl, r1⟩ := vals1 r
    cases r1
    exact call_int_bool ⟨.int (if k then 1 else 0), H, I.tok _, ⟨_, rfl⟩, q⟩
end
end L2

namespace L2
open PySem PySem.Spec PyProof.Rows

/-! ### an instance, its attributes a map -/
structure ObjM (h : Heap) (x dx C : Addr) (mA : Str → Option Value) : Prop where
  obj : h.get? x = some (PySem.W.instObj C dx)
  ns : h.Ns1 dx mA
  ne : dx ≠ x

section
variable {prog : Program} {w : World} {A : Around} {E : Value → Shared → Prop} {s : Shared} {K : PySem.W.Frag} {x dx C f : Addr} {mA : Str → Option Value} {name : Str} {v : Value}

end

/-! ### the attributes as a list of pairs -/
theorem RelO.some_of {v : V} {o : Option Value} (r : RelO (some v) o) : ∃ u, o = some u ∧ RelV v u := by
  cases o with
  | none => exact (show False from r).elim
  | some u => exact ⟨u, rfl, r⟩
section
variable {P : Program} {w : World} {H H' : Hp} {h h' : Heap} {a C dx : Addr} {fs fs' : List (Str × V)}
end

/-! ### what of the text a class must have -/
structure Cls (K : PySem.W.Frag) (C : Addr) : Prop where
  pg : PySem.W.plainGet K C Str.empty = true
  hd : PySem.W.hasDictIn K C = true
  po : PySem.W.plainOver K C = true
  sa : PySem.W.findIn K (.ref C) "__setattr__" = some (some (.builtin "object.__setattr__"))
theorem Cls.get {K : PySem.W.Frag} {C : Addr} (c : Cls K C) (f : Str) : PySem.W.plainGet K C f = true := c.pg
/-- a constant of the class -/
structure Con (K : PySem.W.Frag) (C : Addr) (f : Str) (v : V) (u : Value) : Prop where
  at_ : PySem.W.findIn K (.ref C) f = some (some u)
  rel : RelV v u
  get : PySem.W.specialIn K u "__get__" = some none
  cp : PySem.W.copiedNames.contains f = false
/-- a method: a plain def of the class or of one above it -/
structure Meth (K : PySem.W.Frag) (C : Addr) (m : Str) (f : Addr) : Prop where
  at_ : PySem.W.findIn K (.ref C) m = some (some (.ref f))
  fn : PySem.W.isFn K (.ref f) = true
  kp : PySem.W.keepIn K (.ref f) = true

section
variable {X : Cx} {pins : List (Addr × Obj)} {σ : St} {H : Hp} {s : Shared} {a C dx : Addr} {fs : List (Str × V)} {f : Str} {v : V} {A : Around} {E : Value → Shared → Prop}

/-- a new instance, tracked, without attributes -/
theorem Inv.made (I : Inv X pins σ H s) : Inv X pins σ (upd (upd H s.heap.objs.size (.own (s.heap.objs.size + 1))) (s.heap.objs.size + 1) (.ins C s.heap.objs.size []))
    { s with heap := (s.heap.push PySem.W.emptyDict).push (PySem.W.instObj C s.heap.objs.size) } := by
  have e1 : (s.heap.push PySem.W.emptyDict).get? s.heap.objs.size = some PySem.W.emptyDict := Heap.get?_push_size s.heap rfl
  have e2 : ((s.heap.push PySem.W.emptyDict).push (PySem.W.instObj C s.heap.objs.size)).get? (s.heap.objs.size + 1) = some (PySem.W.instObj C s.heap.objs.size) := by
    have := Heap.get?_push_size (s.heap.push PySem.W.emptyDict) (o := PySem.W.instObj C s.heap.objs.size) rfl
    rwa [Heap.size_push] at this
  have e3 : (s.heap.push PySem.W.emptyDict).Ns s.heap.objs.size (fun _ => none) := ⟨PySem.W.emptyDict, #[], _, e1, rfl, (fun e he => absurd he (by simp)), fun _ => rfl⟩
  have I1 := I.laid (a := s.heap.objs.size) (o := .own (s.heap.objs.size + 1)) (h' := s.heap.push PySem.W.emptyDict) (t' := s.toks) (fun b u q => Heap.get?_push_of_some _ q) (Nat.le_refl _) ⟨_, e1⟩
  refine I1.laid (a := s.heap.objs.size + 1) (o := .ins C s.heap.objs.size []) (t' := s.toks) (fun b u q => Heap.get?_push_of_some _ q) (Nat.le_of_eq (Heap.size_push _ _)) ?_
  have ne : s.heap.objs.size ≠ s.heap.objs.size + 1 := Nat.ne_of_lt (Nat.lt_succ_self _)
  refine ⟨by rw [upd_ne ne, upd_same], Nat.zero_le _, ne, e2, fun _ => none, (Heap.Ns1.of_empty e3).at fun o q => Heap.get?_push_of_some _ q, fun _ => True.intro, fun y hy => absurd rfl hy⟩

end

/-! ### readings and rules -/
section
variable {X : Cx} {o e value : Expr} {f : Str} {pos pos' tpos : Pos} {ta tv : TE}
end

/-! ### isinstance -/
section
variable {X : Cx} {pins : List (Addr × Obj)} {σ : St} {H : Hp} {s : Shared} {A : Around} {E : Value → Shared → Prop} {Q : Value → Shared → Prop} {c : Value} {b : Bool}
/-- the type of a value, as the fragment's deciders take it; for an instance its class -/
inductive TyOf (K : PySem.W.Frag) (H : Hp) : V → Value → Prop where
  | non : TyOf K H .non (.type "NoneType")
  | bl (x : Bool) : TyOf K H (.bl x) (.type "bool")
  | int (i : Int) : TyOf K H (.int i) (.type "int")
  | str (x : Str) : TyOf K H (.str x) (.type "str")
  | flt (x : UInt64) : TyOf K H (.flt x) (.type "float")
  | lst {a : Addr} {xs : List V} (e : H a = some (.lst xs)) : TyOf K H (.ref a) (.type "list")
  | frz {a : Addr} {o : Obj} {xs : List V} (e : H a = some (.frz o (.lst xs))) : TyOf K H (.ref a) (.type "list")
  | tup {a : Addr} {xs : List V} (e : H a = some (.tup xs)) : TyOf K H (.ref a) (.type "tuple")
  | dK {a : Addr} {kvs : List (Key × V)} (e : H a = some (.dK kvs)) : TyOf K H (.ref a) (.type "dict")
  | dT {a : Addr} {kvs : List (List Key × V)} (e : H a = some (.dT kvs)) : TyOf K H (.ref a) (.type "dict")
  | ins {a C dx : Addr} {fs : List (Str × V)} (e : H a = some (.ins C dx fs)) (cl : Cls K C) (ha : PySem.W.findIn K (.ref C) "__class__" = some (some (.builtin "object.__class__")))
      (hn : PySem.W.specialIn K (.builtin "object.__class__") "__get__" = some (some (.builtin "getset_descriptor.__get__"))) (htk : PySem.W.takesIn K (.builtin "object.__class__") = some true)
      (hm : PySem.W.mroIn K C (.type "object") = some true) : TyOf K H (.ref a) (.ref C)
end
end L2

namespace L2
open PySem PySem.Spec PyProof.Rows

/-! ### room -/
structure Room (k : Nat) (A : Around) : Prop where
  hd : A.handled = none
  dp : A.depth + 3 * k + 5 < recursionLimit
  un : A.units + 16 * k + 200 < cLine
theorem Room.mono {j k : Nat} {A : Around} (r : Room k A) (h : j ≤ k) : Room j A := ⟨r.hd, by have := r.dp; omega, by have := r.un; omega⟩
theorem Room.deeper {k : Nat} {A : Around} (r : Room (k + 1) A) (env : Env) : Room k (A.deeper env) :=
  ⟨r.hd, by have := r.dp; show A.depth + 1 + 3 * k + 5 < _; omega, by have := r.un; show A.units + 3 + 16 * k + 200 < _; omega⟩
theorem Room.in1 {k : Nat} {A : Around} (r : Room (k + 1) A) : Room k A.in1 :=
  ⟨r.hd, by have := r.dp; show A.depth + 3 * k + 5 < _; omega, by have := r.un; show A.units + 1 + 16 * k + 200 < _; omega⟩
theorem Room.depth {k : Nat} {A : Around} (r : Room k A) : A.depth < recursionLimit := by have := r.dp; omega
theorem Room.units {k : Nat} {A : Around} (r : Room k A) : A.units + 64 < cLine := by have := r.un; omega
/-! ### argument lists and displays -/
def tNil : TA := fun _ H Q => Q [] H
def tCons (ta : TE) (tr : TA) : TA := fun σ H Q => ta σ H fun x H1 => tr σ H1 fun xs H2 => Q (x :: xs) H2
section
variable {X : Cx} {e : Expr} {es : List Expr} {te : TE} {t : TA} {pos : Pos}
theorem pa_nil : PA X [] tNil := fun _ _ _ _ H Q I h => Calls.spliced_nil ⟨[], H, I, .nil, h⟩
theorem pa_cons (ha : PE X e te) (hr : PA X es t) (hs : starEach (e :: es) X.env = (false, eval e X.env) :: starEach es X.env := by rfl) : PA X (e :: es) (tCons te t) := by
  intro pos pins s σ H Q I h
  rw [hs]
  show wpAny _ _ (spliced ((false, eval e X.env) :: backTo pos (starEach es X.env))) _ _ s
  refine Calls.spliced_cons (thn (ha pins s σ H _ I h) fun u s1 ⟨x, H1, I1, r1, q1⟩ => ?_)
  exact thn (hr pos pins s1 σ H1 _ I1 q1) fun us s2 ⟨xs, H2, I2, r2, q2⟩ => ⟨x :: xs, H2, I2, .cons r1 r2, q2⟩

/-- a tuple, a list of written items -/
def tTup (t : TA) : TE := fun σ H Q => t σ H fun xs H1 => xs.length ≤ sizeLine ∧ ∀ p, H1 p = none → Q (.ref p) (upd H1 p (.tup xs))
def tLst (t : TA) : TE := fun σ H Q => t σ H fun xs H1 => xs.length ≤ sizeLine ∧ ∀ p, H1 p = none → Q (.ref p) (upd H1 p (.lst xs))
theorem pe_tup {x1} (h : PA X es t) : PE X (.Tuple es x1 pos) (tTup t) := by
  intro pins s σ H Q I hq
  refine wpAny_Tuple_spliced (thn (h pos pins s σ H _ I hq) fun us s1 ⟨xs, H1, I1, r, z, q⟩ => ⟨by rw [← r.length]; exact z, ?_⟩)
  have hf : H1 s1.heap.objs.size = none := I1.hok.fresh (Nat.le_refl _)
  refine ⟨.ref s1.heap.objs.size, upd H1 s1.heap.objs.size (.tup xs), I1.laid (t' := s1.toks) (fun b u e => Heap.get?_push_of_some _ e) (Nat.le_refl _) ?_, rfl, q _ hf⟩
  exact ⟨z, us, r, ⟨_, Heap.get?_push_size _ rfl, rfl, _, rfl⟩⟩
theorem pe_lst (h : PA X es t) : PE X (.List es pos) (tLst t) := by
  intro pins s σ H Q I hq
  refine wpAny_List_spliced (thn (h pos pins s σ H _ I hq) fun us s1 ⟨xs, H1, I1, r, z, q⟩ => ⟨by rw [← r.length]; exact z, ?_⟩)
  have hf : H1 s1.heap.objs.size = none := I1.hok.fresh (Nat.le_refl _)
  refine ⟨.ref s1.heap.objs.size, upd H1 s1.heap.objs.size (.lst xs), I1.laid (t' := s1.toks) (fun b u e => Heap.get?_push_of_some _ e) (Nat.le_refl _) ?_, rfl, q _ hf⟩
  exact ⟨z, us, 0, r, Heap.get?_push_size _ rfl⟩
end

/-! ### what a def promises -/
/-- a def's promise: the bound arguments in the parameters' order, the heap, the wanted end, the wanted exception -/
abbrev Sp := List V → Hp → VK → XK → Prop
/-- how an exception lies behind a call (file 08 gives it): the callers' frames, abstract heap and state ahead of the call, the wish, the exception, the state -/
abbrev CXT := List Env → Hp → Shared → XK → Value → Shared → Prop

/-- the state at a call -/
structure Env0 (P : Program) (w : World) (K : PySem.W.Frag) (mg : Str → Option Value) (base : Heap) (A : Around) (outer : List Env) (s : Shared) (H : Hp) : Prop where
  frames : A.frames = some outer
  mod : Mod K mg base
  bs : ∀ b o, base.get? b = some o → s.heap.get? b = some o ∧ H b = none
  bsz : base.objs.size ≤ s.heap.objs.size
  funs : s.heap.FunFrames base outer
  frf : ∀ b ∈ frs outer, H b = none
  hok : HOk P w H s.heap
  bare : AllBare s.gens
/-- a call's end -/
def CE (outer : List Env) (P : Program) (w : World) (H : Hp) (s : Shared) (Q : VK) (u : Value) (s' : Shared) : Prop :=
  ∃ v H', s'.os = s.os ∧ AllBare s'.gens ∧ Un (frs outer) [] H H' s.heap s'.heap ∧ HOk P w H' s'.heap ∧ RelV v u ∧ Q v H'
def CR (CX : CXT) (outer : List Env) (P : Program) (w : World) (H : Hp) (s : Shared) (Q : VK) (E : XK) (r : Result) (s' : Shared) : Prop :=
  match r with
  | .ok (.ret u) => CE outer P w H s Q u s'
  | .ok _ => False
  | .error e => CX outer H s E e s'
structure FnOk (P : Program) (w : World) (K : PySem.W.Frag) (mg : Str → Option Value) (base : Heap) (CX : CXT) (k : Nat) (f : Addr) (fd : FuncData) (ps : List Str) (sp : Sp) : Prop where
  len : ∀ vs H Q E, sp vs H Q E → vs.length = ps.length
  run : ∀ (A : Around) (outer : List Env) (s : Shared) (H : Hp) (args : Args) (us : List Value) (vs : List V) (Q : VK) (E : XK), Room k A → Env0 P w K mg base A outer s H → BindsTo s fd args (ps.zip us) → Vals vs us → sp vs H Q E →
    codeAny (model P w) A (.call (.ref f) args) (CR CX outer P w H s Q E) s
theorem FnOk.mono {P : Program} {w : World} {K : PySem.W.Frag} {mg : Str → Option Value} {base : Heap} {CX : CXT} {j k : Nat} {f : Addr} {fd : FuncData} {ps : List Str} {sp : Sp} (F : FnOk P w K mg base CX j f fd ps sp) (h : j ≤ k) :
    FnOk P w K mg base CX k f fd ps sp := ⟨F.len, fun A outer s H args us vs Q E hr => F.run A outer s H args us vs Q E (hr.mono h)⟩
theorem Env0.in1 {P : Program} {w : World} {K : PySem.W.Frag} {mg : Str → Option Value} {base : Heap} {A : Around} {outer : List Env} {s : Shared} {H : Hp} (e : Env0 P w K mg base A outer s H) :
    Env0 P w K mg base A.in1 outer s H := ⟨e.frames, e.mod, e.bs, e.bsz, e.funs, e.frf, e.hok, e.bare⟩

section
variable {X : Cx} {pins : List (Addr × Obj)} {σ : St} {H : Hp} {s s' : Shared}
/-- from a body: what a callee wants -/
theorem Inv.env0 (I : Inv X pins σ H s) : Env0 X.prog X.w X.K X.mg X.base X.A X.stack s H :=
  ⟨I.ok.frames, I.ok.mod, I.bs, Nat.le_trans I.ok.bsz I.sz, I.stack, I.stkFree, I.hok, I.bare⟩
/-- behind a call -/
theorem Inv.after {Q : VK} {u : Value} (I : Inv X pins σ H s) (h : CE X.stack X.prog X.w H s Q u s') : EP X pins σ Q u s' := by
  obtain ⟨v, H', os, bare, un, hok, r, q⟩ := h
  obtain ⟨hh, g, d, t, os'⟩ := s'
  obtain rfl : os' = s.os := os
  exact ⟨v, H', I.call (h' := hh) (g' := g) (d' := d) (t' := t) (ch := []) un hok bare (fun b z => absurd z (by simp)), r, q⟩
end

/-! ### calls -/
/-- f(..): the written arguments, then the defaults dvs; E: what is wanted of an exception -/
def tCall (sp : Sp) (dvs : List V) (E : XK) (t : TA) : TE := fun σ H Q => t σ H fun vs H1 => sp (vs ++ dvs) H1 Q E
/-- how the parameters are bound: us the positional arguments, kw the keywords' values by name, ds the defaults that fill up -/
def Binds (K : PySem.W.Frag) (fd : FuncData) (ps : List Str) (ds : List Value) : Prop :=
  ∀ (s : Shared) (us : List Value), K.In s.heap → (us ++ ds).length = ps.length → BindsTo s fd ⟨us, []⟩ (ps.zip (us ++ ds))
/-- every parameter is given -/
theorem Binds.all {K : PySem.W.Frag} {fd : FuncData} {ps : List Str} (h : ∀ us : List Value, us.length = ps.length → bindArgs fd ⟨us, []⟩ = pure (ps.zip us)) : Binds K fd ps [] := fun s us _ hl => by
  rw [List.append_nil] at hl ⊢
  exact .of_eq (h us hl)

/-- an exception of a callee reaches what this body wants of exceptions -/
def Passes (CX : CXT) (X : Cx) (E : XK) : Prop := ∀ (pins : List (Addr × Obj)) (σ : St) (H : Hp) (s : Shared) (e : Value) (s' : Shared), Inv X pins σ H s → CX X.stack H s E e s' → X.xe e s'

section
variable {X : Cx} {CX : CXT} {k : Nat} {f C : Addr} {fd : FuncData} {ps : List Str} {sp : Sp} {dvs : List V} {ds : List Value} {E : XK} {x m : Str} {p pos apos : Pos} {e o : Expr} {es : List Expr} {ta : TE} {t : TA}

/-- the callee runs -/
theorem run_fn {pins : List (Addr × Obj)} {σ : St} {H : Hp} {s : Shared} {Q : VK} {us : List Value} {vs : List V} (F : FnOk X.prog X.w X.K X.mg X.base CX k f fd ps sp) (hr : Room k X.A) (hb : Binds X.K fd ps ds) (hd : Vals dvs ds) (hx : Passes CX X E)
    (I : Inv X pins σ H s) (r : Vals vs us) (h : sp (vs ++ dvs) H Q E) : wpAny (model X.prog X.w) X.A (call (.ref f) us) (EP X pins σ Q) X.xe s := by
  have r2 : Vals (vs ++ dvs) (us ++ ds) := r.append hd
  have hl : (us ++ ds).length = ps.length := by rw [← r2.length]; exact F.len _ _ _ _ h
  refine wpAny_call (codeAny_mono (F.run X.A X.stack s H ⟨us, []⟩ (us ++ ds) (vs ++ dvs) Q E hr I.env0 (hb s us I.kIn hl) r2 h) fun r s' hq => ?_)
  cases r with
  | error e => exact hx pins σ H s e s' I hq
  | ok fl =>
    cases fl with
    | ret u => exact I.after hq
    | next => exact False.elim hq
    | brk => exact False.elim hq
    | cont => exact False.elim hq

theorem pe_call (F : FnOk X.prog X.w X.K X.mg X.base CX k f fd ps sp) (hr : Room k X.A) (hg : Gl X x) (hm : X.mg x = some (.ref f)) (hk : PySem.W.keepIn X.K (.ref f) = true) (hb : Binds X.K fd ps ds) (hd : Vals dvs ds) (hx : Passes CX X E)
    (ha : PA X (e :: es) t) (hdb : (x == ("__debug__" : Str)) = false := by decide) (he : starEach (e :: es) X.env = (false, eval e X.env) :: starEach es X.env := by rfl) (hpl : (backTo pos (starEach es X.env)).any (·.1) = false := by rfl) :
    PE X (.Call (.Name x p) (e :: es) [] pos) (tCall sp dvs E t) := by
  intro pins s σ H Q I h
  refine wpAny_Call_Name_kw (ld_glob I hg hm ?_ hdb)
  refine PySem.W.callWith_K (h₀ := X.base) I.ok.mod.kin hk (thn (ha pos pins s σ H _ I h) fun us s1 ⟨vs, H1, I1, r, q⟩ => ⟨I1.kIn, ?_⟩) he hpl
  exact run_fn F hr hb hd hx I1 r q
/-- what a class must have to be made -/
structure Mk (K : PySem.W.Frag) (C f : Addr) : Prop where
  makes : PySem.W.makesIn K C = true
  init : PySem.W.findIn K (.ref C) "__init__" = some (some (.ref f))
  fn : PySem.W.isFn K (.ref f) = true
  kp : PySem.W.keepIn K (.ref C) = true

end

/-! ### keywords -/
section
variable {X : Cx} {CX : CXT} {k : Nat} {f C : Addr} {fd : FuncData} {ps ks : List Str} {sp : Sp} {E : XK} {x m : Str} {p pos apos kpos : Pos} {e o : Expr} {es : List Expr} {kws : List Keyword} {te ta : TE} {t tk : TA} {nm : Option Str}
/-- how a call with keywords binds: g puts the positional values us and the keywords' values ws (names ks) in the parameters' order, defaults among them -/
structure KBinds (K : PySem.W.Frag) (fd : FuncData) (ps ks : List Str) (g : List Value → List Value → List Value) (gV : List V → List V → List V) : Prop where
  to : ∀ (s : Shared) (us ws : List Value), K.In s.heap → (g us ws).length = ps.length → BindsTo s fd ⟨us, ks.zip ws⟩ (ps.zip (g us ws))
  rel : ∀ {vs : List V} {us : List Value} {zs : List V} {ws : List Value}, Vals vs us → Vals zs ws → Vals (gV vs zs) (g us ws)
variable {g : List Value → List Value → List Value} {gV : List V → List V → List V}
end

/-! ### a def's body keeps its promise -/
/-- names: the parameters first -/
structure FnScope (N P : List Str) (sc : Scope) : Prop where
  kind : sc.kind = .function
  co : sc.isCoroutine = false
  gen : sc.isGenerator = false
  nd : N.Nodup
  pre : N.take P.length = P
  par : ∀ x ∈ P, sc.names.lookup x = some .local ∨ sc.names.lookup x = some .cell
  nofree : ∀ y ∈ sc.names, y.2 ≠ .free

theorem bindL_out {kindOf : Str → Option NameKind} {x : Str} : ∀ {binds : List (Str × Value)} {m : Str → Option Value}, (∀ v, (x, v) ∉ binds) → bindL kindOf binds m x = m x
  | [], _, _ => rfl
  | (n, v) :: r, m, h => by
    unfold bindL
    rw [bindL_out fun w hw => h w (List.mem_cons_of_mem _ hw)]
    split
    · have : x ≠ n := by rintro rfl; exact h v List.mem_cons_self
      simp [this]
    · rfl
theorem bindC_out {kindOf : Str → Option NameKind} {x : Str} : ∀ {binds : List (Str × Value)} {m : Str → Option Value}, (∀ v, (x, v) ∉ binds) → bindC kindOf binds m x = m x
  | [], _, _ => rfl
  | (n, v) :: r, m, h => by
    unfold bindC
    rw [bindC_out fun w hw => h w (List.mem_cons_of_mem _ hw)]
    split
    · rfl
    · have : x ≠ n := by rintro rfl; exact h v List.mem_cons_self
      simp [this]
theorem bindL_get {kindOf : Str → Option NameKind} {x : Str} {v : Value} : ∀ {P : List Str} {vs : List Value} {i : Nat} {m : Str → Option Value}, P.Nodup → P[i]? = some x → vs[i]? = some v → kindOf x = some .local →
    bindL kindOf (P.zip vs) m x = some v
  | [], _, _, _, _, h, _, _ => by simp at h
  | _ :: _, [], _, _, _, _, h, _ => by simp at h
  | p :: P, w :: vs, 0, m, nd, h1, h2, hk => by
    simp at h1 h2; subst h1; subst h2
    show bindL kindOf ((p, w) :: P.zip vs) m p = _
    unfold bindL
    rw [bindL_out fun v hv => (List.nodup_cons.mp nd).1 (List.of_mem_zip hv).1, if_pos hk]
    simp
  | p :: P, w :: vs, i + 1, m, nd, h1, h2, hk => by
    show bindL kindOf ((p, w) :: P.zip vs) m x = _
    unfold bindL
    exact bindL_get (i := i) (List.nodup_cons.mp nd).2 (by simpa using h1) (by simpa using h2) hk
theorem bindC_get {kindOf : Str → Option NameKind} {x : Str} {v : Value} : ∀ {P : List Str} {vs : List Value} {i : Nat} {m : Str → Option Value}, P.Nodup → P[i]? = some x → vs[i]? = some v → kindOf x ≠ some .local →
    bindC kindOf (P.zip vs) m x = some v
  | [], _, _, _, _, h, _, _ => by simp at h
  | _ :: _, [], _, _, _, _, h, _ => by simp at h
  | p :: P, w :: vs, 0, m, nd, h1, h2, hk => by
    simp at h1 h2; subst h1; subst h2
    show bindC kindOf ((p, w) :: P.zip vs) m p = _
    unfold bindC
    rw [bindC_out fun v hv => (List.nodup_cons.mp nd).1 (List.of_mem_zip hv).1, if_neg hk]
    simp
  | p :: P, w :: vs, i + 1, m, nd, h1, h2, hk => by
    show bindC kindOf ((p, w) :: P.zip vs) m x = _
    unfold bindC
    exact bindC_get (i := i) (List.nodup_cons.mp nd).2 (by simpa using h1) (by simpa using h2) hk

/-- the names' values at the entry -/
def start (N : List Str) (vs : List V) : St := vs.map some ++ List.replicate (N.length - vs.length) none

/-- the context of a def's body, at its entry; an exception leaves the frame, then lies as CX says -/
def cxOf (CX : CXT) (P : Program) (w : World) (K : PySem.W.Frag) (mg : Str → Option Value) (base : Heap) (N : List Str) (qual : Str) (scope : Scope) (f : Addr) (cd : Value) (A : Around) (outer : List Env) (s : Shared) (H : Hp) (E : XK) : Cx where
  prog := P
  w := w
  K := K
  mg := mg
  base := base
  A := A.deeper (envOfC qual scope s.heap.objs.size f cd)
  N := N
  s₀ := s
  H₀ := H
  env := envOfC qual scope s.heap.objs.size f cd
  outer := outer
  stack := envOfC qual scope s.heap.objs.size f cd :: outer
  ex := []
  calm := true
  fn := fun _ => true
  pn := []
  xe := fun e s' => wpAny (model P w) (A.deeper (envOfC qual scope s.heap.objs.size f cd)) (leaving (envOfC qual scope s.heap.objs.size f cd) e) (fun _ s'' => CX outer H s E e s'') (fun e' s'' => CX outer H s E e' s'') s'

theorem cell_has {sc : Scope} {n : Nat} {x : Str} (h : sc.names.lookup x = some .cell) : ∃ c, (cellsFrom n sc.names []).lookup x = some c := by
  have q := PySem.W.cellsFrom_some sc.names n [] (.inl h)
  exact Option.isSome_iff_exists.mp q

theorem inv_start {CX : CXT} {P : Program} {w : World} {K : PySem.W.Frag} {mg : Str → Option Value} {base : Heap} {N ps : List Str} {qual : Str} {scope : Scope} {f : Addr} {cd : Value} {A : Around} {outer : List Env} {s s1 : Shared} {H : Hp} {E : XK} {us : List Value} {vs : List V}
    (S : FnScope N ps scope) (hd : A.handled = none) (e0 : Env0 P w K mg base A outer s H) (hl : vs.length = ps.length) (r : Vals vs us)
    (x : InCallC s s.heap.objs.size (bindL (envOfC qual scope s.heap.objs.size f cd).kindOf (ps.zip us) fun _ => none) (cellsFrom (s.heap.objs.size + 1) scope.names []) (bindC (envOfC qual scope s.heap.objs.size f cd).kindOf (ps.zip us) fun _ => none) s1) :
    Inv (cxOf CX P w K mg base N qual scope f cd A outer s H E) [] (start N vs) H s1 := by
  have hpl : ps.length ≤ N.length := by have := congrArg List.length S.pre; rw [List.length_take] at this; omega
  obtain ⟨h1, tk, rfl, hk⟩ := x.done
  have noA : ∀ b : Addr, b ∉ (cxOf CX P w K mg base N qual scope f cd A outer s H E).ex := fun b z => absurd (show b ∈ ([] : List Addr) from z) (by simp)
  refine ⟨⟨e0.mod, S.kind, rfl, rfl, Nat.le_refl _, fun y z c h1 h2 => ?_, fun y hy => ?_, fun y c _ h => ?_, fun _ => hd, Around.frames_deeper e0.frames, .inr ⟨rfl, rfl⟩, fun b z => absurd z (noA b), e0.bs, e0.bsz, fun b _ _ => noA b, fun b z => absurd z (noA b), e0.funs, e0.frf⟩,
    rfl, e0.bare, Un.kept hk, ⟨_, x.toInCall.ns, fun i y v h1 h2 h3 => ?_⟩, fun y c h => ⟨_, x.cell y c h⟩, e0.hok.fresh (Nat.le_refl _), fun y c h => ?_, fun p hp => absurd (show p ∈ ([] : List (Addr × Obj)) from hp) (by simp), e0.hok.kept hk, ?_⟩
  · exact name_of_addr x.apart (PySem.mem_of_lookup h1) (PySem.mem_of_lookup h2)
  · have hy : scope.names.lookup y = some .cell ∨ scope.names.lookup y = some .free := hy
    rcases hy with hy | hy
    · exact cell_has hy
    · exact absurd rfl (S.nofree _ (PySem.mem_of_lookup hy))
  · exact Nat.le_of_lt (x.above y c (PySem.mem_of_lookup h))
  · have hi : i < vs.length := by
      unfold start at h2
      by_cases hi : i < vs.length
      · exact hi
      · rw [List.getElem?_append_right (by simpa using hi)] at h2
        rw [List.getElem?_replicate] at h2
        split at h2 <;> cases h2
    have ha : vs[i]? = some v := by
      unfold start at h2
      rw [List.getElem?_append_left (by simpa using hi), List.getElem?_map] at h2
      cases e : vs[i]? with
      | none => rw [e] at h2; cases h2
      | some a => rw [e] at h2; cases h2; rfl
    obtain ⟨u, hu, rv⟩ := r.get ha
    have hp : ps[i]? = some y := by
      rw [← S.pre, List.getElem?_take_of_lt (by omega)]; exact h1
    have ndP : ps.Nodup := by rw [← S.pre]; exact S.nd.sublist (List.take_sublist _ _)
    refine ⟨u, rv, ?_⟩
    rcases S.par y (List.mem_of_getElem? hp) with k | k
    · exact .inl ⟨k, bindL_get ndP hp hu k⟩
    · obtain ⟨c, e⟩ := cell_has (n := s.heap.objs.size + 1) k
      refine .inr ⟨.inl k, c, e, ?_⟩
      have q := x.cell y c e
      rw [bindC_get ndP hp hu (by show scope.names.lookup y ≠ _; rw [k]; decide)] at q
      exact q
  · exact e0.hok.fresh (Nat.le_of_lt (x.above y c (PySem.mem_of_lookup h)))
  · unfold start
    show _ = N.length
    rw [List.length_append, List.length_map, List.length_replicate]
    omega

/-- THE RULE: a def (or a method) of the text, by its body. The body's reading t is chosen for each entry; it is run at the parameters' values -/
theorem fn_of {CX : CXT} {P : Program} {w : World} {K : PySem.W.Frag} {mg : Str → Option Value} {base : Heap} {k : Nat} {f : Addr} {name qual : Str} {params : Arguments} {body : List Stmt} {scope : Scope} {dV kV doc pm cdv ct oc : Value} {an od : Option Addr}
    {osl : Array (Option Value)} {N ps : List Str} {sp : Sp} (lk : K.lookup f = some ⟨oc, od, .func (PySem.W.fnOf name qual params body scope dV kV doc pm an cdv ct), osl⟩) (hcd : PySem.W.codeIn K cdv qual = true) (S : FnScope N ps scope)
    (len : ∀ vs H Q E, sp vs H Q E → vs.length = ps.length)
    (hbody : ∀ (A : Around) (outer : List Env) (s : Shared) (H : Hp) (vs : List V) (Q : VK) (E : XK), Room k (A.deeper (envOfC qual scope s.heap.objs.size f cdv)) → sp vs H Q E →
      ∃ t, PSs (cxOf CX P w K mg base N qual scope f cdv A outer s H E) body t ∧ t { nx := fun _ H' => Q .non H', rt := Q } (start N vs) H) :
    FnOk P w K mg base CX (k + 1) f (PySem.W.fnOf name qual params body scope dV kV doc pm an cdv ct) ps sp := by
  refine ⟨len, fun A outer s H args us vs Q E hr e0 hb r hsp => ?_⟩
  have hl := len _ _ _ _ hsp
  have KX : K.In s.heap := e0.mod.kin.keeps fun b o e => (e0.bs b o e).1
  have lim : s.heap.NoLimit := e0.mod.nolimit.keeps fun b o e => (e0.bs b o e).1
  have hkind : ∀ y ∈ ps.zip us, scope.names.lookup y.1 = some .local ∨ (scope.names.lookup y.1 = some .cell ∧ ((cellsFrom (s.heap.objs.size + 1) scope.names []).lookup y.1).isSome = true) := fun ⟨n, v⟩ hy => by
    rcases S.par n (List.of_mem_zip hy).1 with q | q
    · exact .inl q
    · exact .inr ⟨q, PySem.W.cellsFrom_some _ _ _ (.inl q)⟩
  refine codeAny_call_function hr.depth (KX _ _ lk) rfl S.co S.gen rfl (PySem.W.codeRec_of KX hcd) (hb _ _ _ _ ?_)
  refine wpAny_newFunctionEnv_cells S.kind hkind fun env he s1 x => ?_
  subst he
  refine ⟨lim.keeps x.toInCall.keep, codeAny_func ?_⟩
  obtain ⟨t, ht, hq⟩ := hbody A outer s H vs Q E (hr.deeper _) hsp
  have I : Inv (cxOf CX P w K mg base N qual scope f cdv A outer s H E) [] (start N vs) H s1 := inv_start S hr.hd e0 hl r x
  refine wpAny_mono (ht [] s1 (start N vs) H _ I hq) (fun fl s' hs => ?_) fun e s' hs => hs
  have fin : ∀ {σ' : St} {H' : Hp} {v : V} {u : Value}, Inv (cxOf CX P w K mg base N qual scope f cdv A outer s H E) [] σ' H' s' → RelV v u → Q v H' → CE outer P w H s Q u s' :=
    fun {σ' H' v u} J rv q => ⟨v, H', J.os, J.bare, J.base, J.hok, rv, q⟩
  cases fl with
  | ret u =>
    obtain ⟨v, σ', H', J, rv, q⟩ := hs
    exact fin J rv q
  | next =>
    obtain ⟨σ', H', J, q⟩ := hs
    exact fin (v := V.non) (u := Value.none) J rfl q
  | brk =>
    obtain ⟨_, _, _, q⟩ := hs
    exact False.elim q
  | cont =>
    obtain ⟨_, _, _, q⟩ := hs
    exact False.elim q
end L2

namespace L2
open PySem PySem.Spec PyProof.Rows
section
variable {X : Cx} {x : Str} {p pos : Pos} {e : Expr} {es : List Expr} {t : TA} {id T : String} {r : List V → Hp → VK → Prop}

def tCB (r : List V → Hp → VK → Prop) (t : TA) : TE := fun σ H Q => t σ H fun vs H1 => r vs H1 Q
/-- f(e, ..), f a built-in function -/
theorem pe_callB (hc : CallR X (.builtin id) r) (hg : Gl X x) (hm : X.mg x = none) (hv : bootBuiltins x = some (.builtin id)) (ha : PA X (e :: es) t) (hn : x ≠ "__name__" := by decide) (hdb : (x == ("__debug__" : Str)) = false := by decide)
    (he : starEach (e :: es) X.env = (false, eval e X.env) :: starEach es X.env := by rfl) (hpl : (backTo pos (starEach es X.env)).any (·.1) = false := by rfl) : PE X (.Call (.Name x p) (e :: es) [] pos) (tCB r t) := by
  intro pins s σ H Q I h
  refine wpAny_Call_Name_kw (ld_blt I hg hm hv ?_ hn hdb)
  exact PyProof.Rows.callWith_builtin1 (thn (ha pos pins s σ H _ I h) fun us s1 ⟨vs, H1, I1, r1, q1⟩ => hc pins s1 σ H1 vs us Q I1 r1 q1) he hpl
/-- T(e, ..), T a built-in type -/
theorem pe_callTy (hc : CallR X (.type T) r) (hg : Gl X x) (hm : X.mg x = none) (hv : bootBuiltins x = some (.type T)) (ha : PA X (e :: es) t) (hn : x ≠ "__name__" := by decide) (hdb : (x == ("__debug__" : Str)) = false := by decide)
    (he : starEach (e :: es) X.env = (false, eval e X.env) :: starEach es X.env := by rfl) (hpl : (backTo pos (starEach es X.env)).any (·.1) = false := by rfl) : PE X (.Call (.Name x p) (e :: es) [] pos) (tCB r t) := by
  intro pins s σ H Q I h
  refine wpAny_Call_Name_kw (ld_blt I hg hm hv ?_ hn hdb)
  exact PyProof.Rows.callWith_type1 (thn (ha pos pins s σ H _ I h) fun us s1 ⟨vs, H1, I1, r1, q1⟩ => hc pins s1 σ H1 vs us Q I1 r1 q1) he hpl
end
end L2

namespace HT
open PySem PyProof.Rows

section
open PySem.SeqAt
open PySem.AutoSeq1 (wpAny_loadPart')
open PySem.MeetsSeq PySem.MeetsSeq2 PySem.MeetsSeq3

end

section
variable {prog : Program} {w : World} {A : Around} {E : Value → Shared → Prop} {s : Shared}

/-! ### t[a:b], not the whole -/
/-- a slice's bound as a place among n (d where it is left out) -/
def sIx (n d : Nat) : Option Int → Nat
  | none => d
  | some v => if v < 0 then (v + (n : Int)).toNat else min v.toNat n
end
end HT

namespace L2
open PySem PySem.Spec PyProof.Rows

/-! ### the parts of a slice -/
abbrev TO := St → Hp → (Option Int → Hp → Prop) → Prop
/-- a slice's part (left out, or an int) -/
def PO (X : Cx) (e : Option Expr) (t : TO) : Prop :=
  ∀ (pins : List (Addr × Obj)) (s : Shared) (σ : St) (H : Hp) (Q : Option Int → Hp → Prop), Inv X pins σ H s → t σ H Q →
    wpAny (model X.prog X.w) X.A (evalPart e X.env) (fun u s' => ∃ o H', Inv X pins σ H' s' ∧ IsPart u o ∧ Q o H') X.xe s
def tNoPart : TO := fun _ H Q => Q none H
def tPart (t : TE) : TO := fun σ H Q => t σ H fun x H1 => ∃ i, x = .int i ∧ Q (some i) H1

section
variable {X : Cx} {e : Expr} {te : TE} {lo hi : Option Expr} {tl th : TO} {pos p2 : Pos}

theorem po_none : PO X none tNoPart := by
  intro pins s σ H Q I h
  rw [evalPart_none]
  exact wpAny_pure ⟨none, H, I, .none, h⟩
theorem po_some (h : PE X e te) : PO X (some e) (tPart te) := by
  intro pins s σ H Q I hw
  rw [evalPart_some]
  refine thn (h pins s σ H _ I hw) fun u s1 ⟨x, H1, I1, r1, q1⟩ => ?_
  obtain ⟨i, rfl, q⟩ := q1
  obtain ⟨t, rfl⟩ := r1
  exact ⟨some i, H1, I1, .int i t, q⟩

/-- what a slice of a value is, by values: the slice object stands at sl -/
def SlR (X : Cx) (r : V → Option Int → Option Int → Hp → VK → Prop) : Prop :=
  ∀ (pins : List (Addr × Obj)) (s : Shared) (σ : St) (H : Hp) (x : V) (v vl vu : Value) (lo hi : Option Int) (sl : Addr) (Q : VK), Inv X pins σ H s → RelV x v → s.heap.IsSliceOf sl vl vu .none → IsPart vl lo → IsPart vu hi → r x lo hi H Q →
    ∃ T id, typeLookup (.type T) "__getitem__" = pure (some (.builtin id)) ∧ s.TypeIs v T ∧ wpAny (model X.prog X.w) X.A (getItem v (.ref sl)) (EP X pins σ Q) X.xe s
theorem SlR.or {r r' : V → Option Int → Option Int → Hp → VK → Prop} (h : SlR X r) (h' : SlR X r') : SlR X (fun x lo hi H Q => r x lo hi H Q ∨ r' x lo hi H Q) := by
  intro pins s σ H x v vl vu lo hi sl Q I rx hs pl pu q
  rcases q with q | q
  · exact h pins s σ H x v vl vu lo hi sl Q I rx hs pl pu q
  · exact h' pins s σ H x v vl vu lo hi sl Q I rx hs pl pu q
def tSl (r : V → Option Int → Option Int → Hp → VK → Prop) (te : TE) (tl th : TO) : TE := fun σ H Q => te σ H fun x H1 => tl σ H1 fun l H2 => th σ H2 fun u H3 => r x l u H3 Q
/-- a[lo:hi], any a -/
theorem pe_slice {r : V → Option Int → Option Int → Hp → VK → Prop} (hr : SlR X r) (he : PE X e te) (hl : PO X lo tl) (hu : PO X hi th) : PE X (.Subscript e (.Slice lo hi none p2) pos) (tSl r te tl th) := by
  intro pins s σ H Q I h
  refine Subscript_ (thn (he pins s σ H _ I h) fun v s1 ⟨x, H1, I1, r1, q1⟩ => ?_)
  refine wpAny_Slice (thn (hl pins s1 σ H1 _ I1 q1) fun vl s2 ⟨l, H2, I2, pl, q2⟩ => thn (hu pins s2 σ H2 _ I2 q2) fun vu s3 ⟨u, H3, I3, pu, q3⟩ => ?_)
  rw [evalPart_none]
  refine wpAny_pure ?_
  have I4 : Inv X pins σ H3 { s3 with heap := s3.heap.push { cls := .type "slice", data := .fields #[vl, vu, .none] } } := I3.kept (t' := s3.toks) fun b ob q => Heap.get?_push_of_some _ q
  obtain ⟨T, id, hT, ht, hg⟩ := hr pins { s3 with heap := s3.heap.push { cls := .type "slice", data := .fields #[vl, vu, .none] } } σ H3 x v vl vu l u s3.heap.objs.size Q I4 r1 (Heap.IsSliceOf.new ..) pl pu q3
  show wpAny (model X.prog X.w) X.A (subscriptTail e (.Slice lo hi none p2) v (.ref s3.heap.objs.size)) (EP X pins σ Q) X.xe { s3 with heap := s3.heap.push { cls := .type "slice", data := .fields #[vl, vu, .none] } }
  exact tail_any (ops := [.ref s3.heap.objs.size, v]) ht hT hg (by with_unfolding_all rfl)

/-- the items of xs[lo:hi] -/
def cutV (xs : List V) (lo hi : Option Int) : List V := (xs.drop (HT.sIx xs.length 0 lo)).take (HT.sIx xs.length xs.length hi - HT.sIx xs.length 0 lo)
theorem cutV_length (xs : List V) (lo hi : Option Int) : (cutV xs lo hi).length ≤ xs.length := by
  unfold cutV
  rw [List.length_take, List.length_drop]
  omega
/-! ### t < u, t + u -/
end
end L2

namespace L2
open PySem PySem.Spec PyProof.Rows

/-! ### places -/
/-- the place that an index of any sign means -/
def ixN (n : Nat) (i : Int) : Option Nat := if 0 ≤ i then (if i < n then some i.toNat else none) else if -(n : Int) ≤ i then some (i + n).toNat else none
def atI {α : Type} (xs : List α) (i : Int) : Option α := (ixN xs.length i).bind fun j => xs[j]?
theorem ixN_seq {n : Nat} {i : Int} {j : Nat} (h : ixN n i = some j) : seqIndex? i n = some j ∧ j < n ∧ -(n : Int) ≤ i ∧ i < n := by
  unfold ixN at h
  by_cases h0 : 0 ≤ i
  · rw [if_pos h0] at h
    by_cases h1 : i < n
    · rw [if_pos h1] at h
      have e : i.toNat = j := Option.some.inj h
      exact ⟨by rw [seqIndex_of h0 h1, e], by omega, by omega, h1⟩
    · rw [if_neg h1] at h; cases h
  · rw [if_neg h0] at h
    by_cases h1 : -(n : Int) ≤ i
    · rw [if_pos h1] at h
      have e : (i + n).toNat = j := Option.some.inj h
      exact ⟨by rw [seqIndex_neg (by omega) h1, e], by omega, h1, by omega⟩
    · rw [if_neg h1] at h; cases h
theorem atI_get {α : Type} {xs : List α} {i : Int} {v : α} (h : atI xs i = some v) : ∃ j, seqIndex? i xs.length = some j ∧ xs[j]? = some v ∧ j < xs.length ∧ -(xs.length : Int) ≤ i ∧ i < xs.length := by
  unfold atI at h
  cases e : ixN xs.length i with
  | none => rw [e] at h; cases h
  | some j =>
    rw [e] at h
    obtain ⟨h1, h2, h3, h4⟩ := ixN_seq e
    exact ⟨j, h1, h, h2, h3, h4⟩
theorem atI_nat {α : Type} {xs : List α} {j : Nat} {v : α} (h : xs[j]? = some v) : atI xs (j : Int) = some v := by
  have hj : j < xs.length := (List.getElem?_eq_some_iff.mp h).1
  have e : ixN xs.length (j : Int) = some j := by
    unfold ixN
    rw [if_pos (by omega), if_pos (by omega)]; simp
  unfold atI; rw [e]; exact h
/-! ### what may be subscripted -/
/-- what stands as an index of a plain subscript -/
def PlainIx (b : Expr) : Prop := ∀ o i, subscripted b false o i = operate [o, i] (getItem o i)
/-- a subscript by values -/
def IxR (X : Cx) (r : R2) : Prop :=
  ∀ (value slice : Expr) (pins : List (Addr × Obj)) (s : Shared) (σ : St) (H : Hp) (x y : V) (v u : Value) (Q : VK), Inv X pins σ H s → RelV x v → RelV y u → r x y H Q →
    subscripted slice false v u = operate [v, u] (getItem v u) → wpAny (model X.prog X.w) X.A (subscriptTail value slice v u) (EP X pins σ Q) X.xe s
/-- a call of a builtin's method by values: the receiver, the arguments -/
def MtR (X : Cx) (id : String) (r : V → List V → Hp → VK → Prop) : Prop :=
  ∀ (pins : List (Addr × Obj)) (s : Shared) (σ : St) (H : Hp) (x : V) (xs : List V) (v : Value) (us : List Value) (Q : VK), Inv X pins σ H s → RelV x v → Vals xs us → r x xs H Q →
    wpAny (model X.prog X.w) X.A (call (.builtin id) (v :: us)) (EP X pins σ Q) X.xe s
section
variable {X : Cx} {a b : Expr} {ta tb : TE} {pos : Pos}
theorem IxR.or {r r' : R2} (h : IxR X r) (h' : IxR X r') : IxR X (fun x y H Q => r x y H Q ∨ r' x y H Q) := by
  intro value slice pins s σ H x y v u Q I rx ry q hs
  rcases q with q | q
  · exact h value slice pins s σ H x y v u Q I rx ry q hs
  · exact h' value slice pins s σ H x y v u Q I rx ry q hs
theorem MtR.or {id : String} {r r' : V → List V → Hp → VK → Prop} (h : MtR X id r) (h' : MtR X id r') : MtR X id (fun x xs H Q => r x xs H Q ∨ r' x xs H Q) := by
  intro pins s σ H x xs v us Q I rx rs q
  rcases q with q | q
  · exact h pins s σ H x xs v us Q I rx rs q
  · exact h' pins s σ H x xs v us Q I rx rs q
/-- a[b] -/
theorem pe_ix {r : R2} (hr : IxR X r) (ha : PE X a ta) (hb : PE X b tb) (hs : PlainIx b) : PE X (.Subscript a b pos) (tOp r ta tb) := by
  intro pins s σ H Q I h
  exact Subscript_ (binT ha hb I h fun v u s2 x y H2 I2 rx ry q => hr a b pins s2 σ H2 x y v u Q I2 rx ry q (hs _ _))

def rIxL (K : PySem.W.Frag) : R2 := fun x y H Q => ∃ p xs i v, x = .ref p ∧ y = .int i ∧ SqL K H p xs ∧ atI xs i = some v ∧ Q v H
def rIxT (K : PySem.W.Frag) : R2 := fun x y H Q => ∃ p xs i v, x = .ref p ∧ y = .int i ∧ SqT K H p xs ∧ atI xs i = some v ∧ Q v H
theorem ix_list : IxR X (rIxL X.K) := by
  intro value slice pins s σ H x y v u Q I rx ry h hs
  obtain ⟨p, xs, i, z, rfl, rfl, hq, he, q⟩ := h
  cases rx
  obtain ⟨t, rfl⟩ := ry
  obtain ⟨its, r, pl, hz⟩ := I.list hq
  obtain ⟨j, h1, h2, h3, h4, h5⟩ := atI_get he
  obtain ⟨w, ew, rw'⟩ := r.get h2
  have hl := r.length
  have hn := line63
  have fin : EP X pins σ Q w s := ⟨z, H, I, rw', q⟩
  by_cases h0 : 0 ≤ i
  · have hj : i.toNat = j := by
      rw [seqIndex_of h0 h5] at h1
      exact Option.some.inj h1
    exact item_listR pl.isList h0 (by omega) (by rw [hj]; simpa using ew) fin hs
  · have hj : (i + (its.toArray.size : Int)).toNat = j := by
      rw [seqIndex_neg (by omega) h4] at h1
      rw [List.size_toArray, ← hl]
      exact Option.some.inj h1
    exact subscriptTail_builtinR (x := w) pl.isList.typeIs slot_list_getitem.lookup
      (wpAny_getItem_list_neg (Q := fun r s' => r = w ∧ EP X pins σ Q r s') pl.isList (by omega) (by rw [List.size_toArray] <;> omega) (by omega) (by rw [hj]; simpa using ew) ⟨rfl, fin⟩) hs
theorem ix_tup : IxR X (rIxT X.K) := by
  intro value slice pins s σ H x y v u Q I rx ry h hs
  obtain ⟨p, xs, i, z, rfl, rfl, hq, he, q⟩ := h
  cases rx
  obtain ⟨t, rfl⟩ := ry
  obtain ⟨its, r, pl, hz⟩ := I.tuple hq
  obtain ⟨j, h1, h2, h3, h4, h5⟩ := atI_get he
  obtain ⟨w, ew, rw'⟩ := r.get h2
  have hl := r.length
  have hn := line63
  have fin : EP X pins σ Q w s := ⟨z, H, I, rw', q⟩
  exact subscriptTail_builtinR (x := w) pl.typeIs slot_tuple_getitem.lookup
    (getItem_tuple (j := j) (Q := fun r s' => r = w ∧ EP X pins σ Q r s') pl (by omega) (by omega) (by rw [List.size_toArray, ← hl]; exact h1) (by simpa using ew) ⟨rfl, fin⟩) hs
/-! ### xs[i] = v, any sign -/
theorem Inv.lst {pins : List (Addr × Obj)} {σ : St} {H : Hp} {s : Shared} {p : Addr} {xs : List V} (I : Inv X pins σ H s) (h : H p = some (.lst xs)) :
    ∃ (its : List Value) (n : Nat), Vals xs its ∧ s.heap.get? p = some { cls := .type "list", data := .seq its.toArray n } ∧ xs.length ≤ sizeLine := by
  obtain ⟨z, its, n, r, e⟩ := I.hok p _ h
  exact ⟨its, n, r, e, z⟩
/-! ### slices -/
theorem slice_bounds (lo hi : Option Int) (n : Nat) : (sliceBounds lo hi none n).1 = ((HT.sIx n 0 lo : Nat) : Int) ∧ (sliceBounds lo hi none n).2.1 = ((HT.sIx n n hi : Nat) : Int) ∧ (sliceBounds lo hi none n).2.2 = 1 := by
  refine ⟨?_, ?_, rfl⟩
  · cases lo with
    | none => simp [sliceBounds, HT.sIx]
    | some i =>
      simp only [sliceBounds, HT.sIx, Option.getD_none, show (1 : Int) > 0 by decide, if_true]
      by_cases h : i < 0
      · simp only [h, if_true] <;> omega
      · simp only [h, if_false] <;> omega
  · cases hi with
    | none => simp [sliceBounds, HT.sIx]
    | some i =>
      simp only [sliceBounds, HT.sIx, Option.getD_none, show (1 : Int) > 0 by decide, if_true]
      by_cases h : i < 0
      · simp only [h, if_true] <;> omega
      · simp only [h, if_false] <;> omega
theorem slicePick_cut (its : List Value) (lo hi : Option Int) : slicePick its.toArray lo hi none = ((its.drop (HT.sIx its.length 0 lo)).take (HT.sIx its.length its.length hi - HT.sIx its.length 0 lo)).toArray := by
  obtain ⟨h1, h2, h3⟩ := slice_bounds lo hi its.toArray.size
  unfold slicePick
  rw [h1, h2, h3]
  simp only [sliceRange_one, pick_run, List.size_toArray] <;> rfl
/-- xs[lo:hi] of a list: a new list -/
def rSlL (K : PySem.W.Frag) : V → Option Int → Option Int → Hp → VK → Prop := fun x lo hi H Q => ∃ a xs, x = .ref a ∧ SqL K H a xs ∧ ∀ p, H p = none → Q (.ref p) (upd H p (.lst (cutV xs lo hi)))
theorem sl_list : SlR X (rSlL X.K) := by
  intro pins s σ H x v vl vu lo hi sl Q I rx hs pl pu h
  obtain ⟨a, xs, rfl, hx, q⟩ := h
  cases rx
  obtain ⟨its, r, ht, hz⟩ := I.list hx
  have hlen := r.length
  refine ⟨"list", _, slot_list_getitem.lookup, ht.isList.typeIs, ?_⟩
  refine wpAny_getItem_list_slice ht.isList hs pl pu .none (by simp) ?_ (by rw [List.size_toArray] <;> omega)
  rw [slicePick_cut, ← hlen]
  refine ⟨.ref s.heap.objs.size, _, I.laid (t' := s.toks) (o := .lst (cutV xs lo hi)) (fun b ob q => Heap.get?_push_of_some _ q) (Nat.le_refl _) ?_, rfl, q _ (I.hok.fresh (Nat.le_refl _))⟩
  exact ⟨Nat.le_trans (cutV_length xs lo hi) hz, _, 0, (r.drop (HT.sIx xs.length 0 lo)).take (HT.sIx xs.length xs.length hi - HT.sIx xs.length 0 lo), Heap.get?_push_size _ rfl⟩

/-! ### in, not in: flat items -/
/-! ### len, list(x), tuple(x) of any list or tuple that is read -/
theorem call_len_seq : CallR X (.builtin "len") (fun xs H Q => ∃ p ys, xs = [.ref p] ∧ (SqL X.K H p ys ∨ SqT X.K H p ys) ∧ Q (.int ys.length) H) := by
  intro pins s σ H xs us Q I r h
  obtain ⟨p, ys, rfl, hq, q⟩ := h
  obtain ⟨u, rfl, rx⟩ := vals1 r
  cases rx
  have hn := line63
  rcases hq with hq | hq
  · obtain ⟨its, r', pl, hz⟩ := I.list hq
    have hlen := r'.length
    exact Calls.call_len_list pl.isList (by simp only [List.size_toArray] <;> omega) ⟨.int ys.length, H, I.tok _, ⟨s.toks + 1, by rw [List.size_toArray, hlen]⟩, q⟩
  · obtain ⟨its, r', pl, hz⟩ := I.tuple hq
    have hlen := r'.length
    exact len_tuple pl (by simp only [List.size_toArray] <;> omega) ⟨.int ys.length, H, I.tok _, ⟨s.toks + 1, by rw [List.size_toArray, hlen]⟩, q⟩
theorem CallR.or {f : Value} {r r' : List V → Hp → VK → Prop} (h : CallR X f r) (h' : CallR X f r') : CallR X f (fun xs H Q => r xs H Q ∨ r' xs H Q) := by
  intro pins s σ H xs us Q I rs q
  rcases q with q | q
  · exact h pins s σ H xs us Q I rs q
  · exact h' pins s σ H xs us Q I rs q
theorem call_list_of : CallR X (.type "list") (fun xs H Q => ∃ p ys, xs = [.ref p] ∧ (SqL X.K H p ys ∨ SqT X.K H p ys) ∧ ∀ l, H l = none → Q (.ref l) (upd H l (.lst ys))) := by
  intro pins s σ H xs us Q I r h
  obtain ⟨p, ys, rfl, hq, q⟩ := h
  obtain ⟨u, rfl, rx⟩ := vals1 r
  cases rx
  have fin : ∀ (its : List Value), Vals ys its → ys.length ≤ sizeLine → ∀ (h' : Heap) (c' : Nat), (∀ b o', s.heap.get? b = some o' → h'.get? b = some o') →
      h'.get? s.heap.objs.size = some { cls := .type "list", dict := none, data := .seq its.toArray c', slots := #[] } → EP X pins σ Q (.ref s.heap.objs.size) { s with heap := h' } := fun its r' hz h' c' kp e =>
    ⟨.ref s.heap.objs.size, _, I.laid (t' := s.toks) kp (Nat.le_refl _) (show ObjOk X.prog X.w _ h' _ (.lst ys) from ⟨hz, its, c', r', e⟩), rfl, q _ (I.hok.fresh (Nat.le_refl _))⟩
  rcases hq with hq | hq
  · obtain ⟨its, r', pl, hz⟩ := I.list hq
    have hlen := r'.length
    obtain ⟨o, ho, hc, n, hd⟩ := pl.isList
    exact call_list_seq p (.inl rfl) ho hc hd (fun h' c' kp e => fin its r' hz h' c' kp e) (by simp only [List.size_toArray] <;> omega)
  · obtain ⟨its, r', pl, hz⟩ := I.tuple hq
    have hlen := r'.length
    obtain ⟨o, ho, hc, n, hd⟩ := pl
    exact call_list_seq p (.inr rfl) ho hc hd (fun h' c' kp e => fin its r' hz h' c' kp e) (by simp only [List.size_toArray] <;> omega)
/-! ### the call of a builtin's method: o.m(..) -/
/-- the value is of that builtin type -/
def tyV (K : PySem.W.Frag) (T : String) (x : V) (H : Hp) : Prop := match x with
  | .str _ => T = "str"
  | .int _ => T = "int"
  | .ref p => (T = "list" ∧ ∃ xs, SqL K H p xs) ∨ (T = "tuple" ∧ ∃ o, K.lookup p = some o ∧ o.cls = .type "tuple" ∧ o.dict = none) ∨
      (T = "dict" ∧ ((∃ kvs, H p = some (.dK kvs)) ∨ ∃ kvs, H p = some (.dT kvs))) ∨ (T = "set" ∧ ∃ S n, H p = some (.set S n))
  | _ => False
theorem tyV_is {pins : List (Addr × Obj)} {σ : St} {H : Hp} {s : Shared} {T : String} {x : V} {v : Value} (I : Inv X pins σ H s) (r : RelV x v) (ty : tyV X.K T x H) :
    s.TypeIs v T ∧ ∀ a, v = .ref a → ∃ ob, s.heap.get? a = some ob ∧ ob.dict = none := by
  cases x with
  | str z =>
    obtain ⟨t, rfl⟩ := r
    cases (show T = "str" from ty)
    exact ⟨typeIs_str s z t, fun _ e => nomatch e⟩
  | int i =>
    obtain ⟨t, rfl⟩ := r
    cases (show T = "int" from ty)
    exact ⟨typeIs_int s i t, fun _ e => nomatch e⟩
  | ref p =>
    cases r
    rcases ty with ⟨rfl, xs, hq⟩ | ⟨rfl, o, hk, hc, hd⟩ | ⟨rfl, hk⟩ | ⟨rfl, S, n, hk⟩
    · obtain ⟨its, _, pl, _⟩ := I.list hq
      refine ⟨pl.isList.typeIs, fun a e => ?_⟩
      cases e
      obtain ⟨o, n, e, c, hd, _⟩ := pl
      exact ⟨o, e, hd⟩
    · refine ⟨⟨o, I.kIn p o hk, hc⟩, fun a e => ?_⟩
      cases e
      exact ⟨o, I.kIn _ o hk, hd⟩
    · have z : ∃ o, s.heap.get? p = some o ∧ o.ExactDict := by
        rcases hk with ⟨kvs, hk⟩ | ⟨kvs, hk⟩
        · obtain ⟨_, _, _, _, o, _, _, e, ex, _⟩ := I.hok p _ hk
          exact ⟨o, e, ex⟩
        · obtain ⟨_, _, _, _, o, _, _, e, ex, _⟩ := I.hok p _ hk
          exact ⟨o, e, ex⟩
      obtain ⟨o, e, ex⟩ := z
      refine ⟨⟨o, e, ex.1⟩, fun a e2 => ?_⟩
      cases e2
      exact ⟨o, e, ex.2.1⟩
    · obtain ⟨o, _, _, _, e, ex, _⟩ := I.hok p _ hk
      refine ⟨⟨o, e, ex.1⟩, fun a e2 => ?_⟩
      cases e2
      exact ⟨o, e, ex.2.1⟩
  | _ => exact False.elim ty
def tBM0 (K : PySem.W.Frag) (T : String) (r : V → List V → Hp → VK → Prop) (to : TE) : TE := fun σ H Q => to σ H fun x H1 => tyV K T x H1 ∧ r x [] H1 Q
def tBM (K : PySem.W.Frag) (T : String) (r : V → List V → Hp → VK → Prop) (to : TE) (t : TA) : TE := fun σ H Q => to σ H fun x H1 => tyV K T x H1 ∧ t σ H1 fun xs H2 => r x xs H2 Q
variable {o e : Expr} {es : List Expr} {to : TE} {t : TA} {name : Str} {apos cpos : Pos} {T id : String} {r : V → List V → Hp → VK → Prop}
theorem pe_bm0 (pa : PlainAttrs T) (slot : Slot T name id) (hty : typeOf (.builtin id) = pure (.type "method_descriptor")) (hm : MtR X id r) (ho : PE X o to)
    (hbase : attributeBase o name X.env (eval o X.env) = eval o X.env := by rfl) (hline : (apos.endLine == cpos.line) = true := by rfl) : PE X (.Call (.Attribute o name apos) [] [] cpos) (tBM0 X.K T r to) := by
  intro pins s σ H Q I h
  refine wpAny_Call_method0_late hbase hline (thn (ho pins s σ H _ I h) fun v s1 ⟨x, H1, I1, r1, ty, q1⟩ => ?_)
  obtain ⟨h1, h2⟩ := tyV_is I1 r1 ty
  exact ⟨T, id, pa, slot, hty, h1, h2, Calls.callWith_builtin rfl (PySem.evalArgs_none (hm pins s1 σ H1 x [] v [] Q I1 r1 .nil q1))⟩
theorem pe_bm (pa : PlainAttrs T) (slot : Slot T name id) (hty : typeOf (.builtin id) = pure (.type "method_descriptor")) (hm : MtR X id r) (ho : PE X o to) (ha : PA X (e :: es) t)
    (hbase : attributeBase o name X.env (eval o X.env) = eval o X.env := by rfl)
    (hfew : ((backTo cpos (starEach (e :: es) X.env)).all (fun x => !x.1) && (backToKw cpos (keywordEach [] X.env)).all (fun x => x.1.isSome)
      && decide ((e :: es).length + ([] : List Keyword).length + (if ([] : List Keyword).isEmpty then 0 else 1) < 30)) = true := by rfl)
    (hline : (apos.endLine == cpos.line) = true := by rfl) (hs : starEach (e :: es) X.env = (false, eval e X.env) :: starEach es X.env := by rfl) (hplain : (backTo cpos (starEach es X.env)).any (·.1) = false := by rfl) :
    PE X (.Call (.Attribute o name apos) (e :: es) [] cpos) (tBM X.K T r to t) := by
  intro pins s σ H Q I h
  refine wpAny_Call_method_late hbase hfew hline rfl (thn (ho pins s σ H _ I h) fun v s1 ⟨x, H1, I1, r1, ty, q1⟩ => ?_)
  obtain ⟨h1, h2⟩ := tyV_is I1 r1 ty
  refine ⟨T, id, pa, slot, hty, h1, h2, ?_⟩
  have hA := ha cpos pins s1 σ H1 _ I1 q1
  rw [hs] at hA ⊢
  refine Calls.callWith_builtin (by show (false || (backTo cpos (starEach es X.env)).any (·.1)) = false; rw [hplain] <;> rfl) (Calls.evalArgs_plain ?_)
  exact thn hA fun us s2 ⟨vs, H2, I2, r2, q2⟩ => hm pins s2 σ H2 x vs v us Q I2 r1 r2 q2
/- xs.append(e), list.index on a module's tuple .. are MtR facts of 06m -/
end
end L2

namespace L2
open PySem PySem.Spec PyProof.Rows

def MtM (X : Cx) (id : String) (r : V → List V → Hp → VK → Prop) : Prop :=
  ∀ (pins : List (Addr × Obj)) (s : Shared) (σ : St) (H : Hp) (x : V) (xs : List V) (v : Value) (us : List Value) (Q : VK), Inv X pins σ H s → RelV x v → Vals xs us → r x xs H Q →
    wpAny (model X.prog X.w) X.A (call (.builtin id) (v :: us)) (EP X pins σ Q) X.xe s

/-! ### lists of values -/
theorem Vals.one : ∀ {x : V} {us : List Value}, Vals [x] us → ∃ u, us = [u] ∧ RelV x u
  | _, _, .cons r .nil => ⟨_, rfl, r⟩
theorem Vals.two : ∀ {x y : V} {us : List Value}, Vals [x, y] us → ∃ u v, us = [u, v] ∧ RelV x u ∧ RelV y v
  | _, _, _, .cons r (.cons q .nil) => ⟨_, _, rfl, r, q⟩
theorem Vals.zero : ∀ {us : List Value}, Vals [] us → us = []
  | _, .nil => rfl
theorem Vals.eraseIdx : ∀ {xs : List V} {us : List Value} (i : Nat), Vals xs us → Vals (xs.eraseIdx i) (us.eraseIdx i)
  | _, _, _, .nil => .nil
  | _, _, 0, .cons _ t => t
  | _, _, i + 1, .cons r t => .cons r (Vals.eraseIdx i t)
theorem Vals.reverse {xs : List V} {us : List Value} (h : Vals xs us) : Vals xs.reverse us.reverse := by
  induction h with
  | nil => exact .nil
  | cons r t ih => rw [List.reverse_cons, List.reverse_cons]; exact Vals.append ih (.cons r .nil)
section
variable {X : Cx} {pins : List (Addr × Obj)} {σ : St} {H : Hp} {s : Shared} {l b : Addr} {xs ys zs : List V}

/-! ### the two steps: a tracked list is rewritten, a new list is laid -/
theorem Inv.lset {its its' : List Value} {n : Nat} {f : Array Value → Array Value} {t' : Nat} (I : Inv X pins σ H s) (hH : H l = some (.lst xs))
    (e : s.heap.get? l = some { cls := .type "list", data := .seq its.toArray n }) (hf : f its.toArray = its'.toArray) (hv : Vals ys its') (hz : ys.length ≤ sizeLine) :
    Inv X pins σ (upd H l (.lst ys)) { s with heap := s.heap.update l (Obj.mapSeq f), toks := t' } := by
  have q := PySem.IsL.update e f
  rw [hf] at q
  refine I.write (x := l) (e := l) (by rw [hH]; exact trivial) (.inl rfl) (fun b' u hb hu => (Heap.get?_update_other s.heap (Obj.mapSeq f) (Ne.symm hb)).trans hu) ⟨_, q⟩ ?_
  exact ⟨hz, its', _, hv, q⟩
theorem Inv.lnew {its : List Value} {t' : Nat} (I : Inv X pins σ H s) (hv : Vals ys its) (hz : ys.length ≤ sizeLine) :
    Inv X pins σ (upd H s.heap.objs.size (.lst ys)) { s with heap := s.heap.push { cls := .type "list", data := .seq its.toArray }, toks := t' } :=
  I.laid (fun _ _ q => Heap.get?_push_of_some _ q) (Nat.le_refl _) ⟨hz, its, 0, hv, Heap.get?_push_size _ rfl⟩
theorem Inv.fresh (I : Inv X pins σ H s) : H s.heap.objs.size = none := I.hok.fresh (Nat.le_refl _)
theorem Inv.lstM (I : Inv X pins σ H s) (hH : H l = some (.lst xs)) : xs.length ≤ sizeLine ∧ ∃ (its : List Value) (n : Nat), Vals xs its ∧ xs.length = its.length ∧ s.heap.get? l = some { cls := .type "list", data := .seq its.toArray n } := by
  obtain ⟨z, its, n, r, e⟩ := I.hok l _ hH
  exact ⟨z, its, n, r, r.length, e⟩

end

section
variable {X : Cx}

/-! ### methods -/
def rAppend : V → List V → Hp → VK → Prop := fun x vs H Q => ∃ l xs y, x = .ref l ∧ vs = [y] ∧ H l = some (.lst xs) ∧ xs.length < sizeLine ∧ Q .non (upd H l (.lst (xs ++ [y])))
theorem mt_append : MtM X "list.append" rAppend := by
  intro pins s σ H x vs v us Q I rx rv h
  obtain ⟨l, xs, y, rfl, rfl, hH, hz, q⟩ := h
  cases rx
  obtain ⟨u, rfl, ru⟩ := rv.one
  obtain ⟨z, its, n, r, hl, e⟩ := I.lstM hH
  refine call_meets F.slot_list_append ⟨_, e, rfl⟩ F.entry_list_append (F.args_list_append_2 _ _) (PySem.list_append l its.toArray n u (by rw [List.size_toArray]; omega)) ⟨e, ?_⟩
  refine ⟨.non, _, I.lset (its' := its ++ [u]) hH e (by simp) (r.append (.cons ru .nil)) ?_, rfl, q⟩
  rw [List.length_append, List.length_singleton]
  omega

/-! ### list + list, list += list, list * int -/
/-! ### del xs[i] -/
end

/-! ### xs[a:b] = ys -/
section
variable {prog : Program} {w : World} {A : Around} {E : Value → Shared → Prop} {s : Shared}
end

section
variable {X : Cx}
end
end L2

namespace Att
open PySem PySem.W PySem.Calls PyProof.Rows

/-! ### the script -/
theorem ints_of_wellAll {P : Params} {h : Heap} : ∀ (ns : List Int) (vs : List Value), WellAll P h vs (ns.map WData.int) → IntsAre vs ns := by
  intro ns
  induction ns with
  | nil =>
    intro vs w
    rw [List.map_nil] at w
    cases w
    exact .nil
  | cons n ns ih =>
    intro vs w
    rw [List.map_cons] at w
    cases w with
    | cons a b =>
      cases a
      exact .cons _ _ (ih _ b)

theorem script_of {l : OpenLaw} {n : Nat} (hn : l.most = some n) {P : Params} {h : Heap} {args : List WData} {vals : List Value}
    (hpre : l.row.toRowW.claim.pre args = true) (hwl : WellAll P h vals args) :
    ∃ a vs ns, vals = [Value.ref a] ∧ args = [WData.list (ns.map WData.int)] ∧ h.get? a = some { cls := .type "list", data := .seq vs.toArray } ∧ IntsAre vs ns ∧ ns.length ≤ n := by
  have hsh : WShape.hasAll [] args [.list .int] = true := (pre_splitW hpre).1
  have hc : l.pre.holds [] { args := args } = true := (pre_splitW hpre).2
  obtain ⟨d, r, rfl, h1, h2⟩ := hasAllW_cons hsh
  obtain rfl := hasAllW_nil h2
  obtain ⟨xs, rfl, h3⟩ := hasW_list h1
  obtain ⟨ns, rfl⟩ := items_int h3
  have hlen : ns.length ≤ n := by
    unfold OpenLaw.pre at hc
    have h4 : (WTm.not (.lt (.lit (.int (n : Int))) (.len (.arg 0)))).holds [] { args := [.list (ns.map .int)] } = true := by
      have h4 := (holds_andW hc).1
      rw [hn] at h4
      exact h4
    have h5 := condW_of h4 (w_not (w_lt w_lit (w_len_list (w_arg rfl))))
    rw [List.length_map] at h5
    refine Nat.le_of_not_lt fun q => ?_
    have q' : (n : Int) < ((ns.length : Nat) : Int) := by omega
    first
      | (rw [decide_eq_true q'] at h5; exact absurd h5 (by decide))
      | (simp at h5; omega)
  cases hwl with
  | cons w1 w2 =>
    cases w2
    cases w1 with
    | list ho hall => exact ⟨_, _, ns, rfl, rfl, ho, ints_of_wellAll ns _ hall, hlen⟩

theorem post_true (l : OpenLaw) (args : List WData) : l.row.toRowW.claim.post args (.bool true) args = true :=
  postW_of (r := l.row.toRowW) (X := (true == true))
    (show WShape.has [] (.bool true) .bool = true by first | rfl | decide | simp [WShape.has, WShape.arms, WShape.armsAll])
    (show (WTm.eq .res (.lit (.bool true))).value [] { args := args, res := some (.bool true), after := args } = some (.bool (true == true)) from w_eq_bool (w_res rfl) w_lit) rfl

/-! ### the attachment: holds_open's last premise (the goal 'hc' behind k_head) from a wpAny of the law's body -/
/-- the same from a codeAny of the CALL (for a layer whose function contracts speak of calls) -/
theorem attach_call {l : OpenLaw} {n : Nat} {q : Program} {loose : List Str} {XP : (Str → Option Value) → Heap → Prop} {YP : World → Heap → Prop} {d : DefRec}
    (hn : l.most = some n) (hdf : d.params.defaults = [])
    (call : ∀ (w : World) (s₀ s₁ : Shared) (mg mb : Str → Option Value) (fa : Addr) (o : Obj) (pm cd doc : Value) (a : Addr) (vs : List Value) (ns : List Int),
      Ground q loose [] XP w s₀ mg mb s₁.heap → YP w s₁.heap →
      s₁.heap.get? fa = some o → o.data = .func (docDef d.name d.params d.body d.scope pm cd doc) → s₁.heap.CodeRec cd d.name → mg d.name = some (.ref fa) →
      s₁.heap.get? a = some { cls := .type "list", data := .seq vs.toArray } → IntsAre vs ns → ns.length ≤ n → s₁.gens = #[] →
      codeAny (model l.prog w) callerA (.call (.ref fa) ⟨[.ref a], []⟩) (fun r s' => r = .ok (.ret (.bool true)) ∧ OldK s₁.heap s'.heap ∧ s'.os = s₁.os ∧ AllBare s'.gens) s₁) :
    WalkO q loose XP YP l.row.toRowW d [] (fun f vs => PySem.call f vs) := by
  intro w s₀ s₁ mg mb G Y fa o pm cd doc dV kV ho hd hcd hD hmg hg args vals as hpre hlay hrd hwl hlo
  obtain rfl : dV = .none := Dflts.none hD hdf
  obtain rfl : kV = .none := Dflts.noKw hD
  obtain ⟨a, vs, ns, rfl, rfl, hobj, hints, hlen⟩ := script_of hn hpre hwl
  refine enter_call (codeAny_mono (call w s₀ s₁ mg mb fa o pm cd doc a vs ns G Y ho (fd_plain hd) hcd hmg hobj hints hlen hg) fun r s' hq => ?_)
  obtain ⟨rfl, h2, h3, h4⟩ := hq
  exact ⟨.inl ⟨.bool true, .bool true, [], rfl, fun _ => rfl, .bool true, post_true l _, fun _ => ⟨List.Pairwise.nil, fun _ hm => (nomatch hm)⟩⟩, h2, h3, h4⟩

/-! ### rules over ANY heap (no ledger) from facts about the written part K: the library's own take a ledger (News) for what they write -/
section
variable {prog : Program} {w : World} {A : Around} {E : Value → Shared → Prop} {s : Shared} {K : Frag}

/-! the whole heap as the ledger: makes every rule that writes through a ledger a rule over any heap -/
def ledger (h : Heap) (L d : Addr) : List (Addr × Obj) := (List.range h.objs.size).filterMap fun a => if a = L ∨ a = d then none else (h.get? a).map fun o => (a, o)
end
end Att

namespace L2
open PySem PySem.Spec PyProof.Rows

theorem vals_ints : ∀ {vs : List Value} {ns : List Int}, IntsAre vs ns → Vals (ns.map V.int) vs
  | _, _, .nil => .nil
  | _, _, .cons n t h => .cons ⟨t, rfl⟩ (vals_ints h)

/-- nothing is tracked but the script, known to the object (or it is an object of the module) -/
def Only (H : Hp) : Prop := ∀ b, H b = none ∨ ∃ o xs, H b = some (.frz o (.lst xs))

/-- THE HEAD: the law's promise, at the heap behind the top. F, the promise of the law's def, may use that base is part of the heap (so K.In base, base.Ns mainGlobals mg stand in Mod) -/
theorem law_call {P : Program} {w : World} {K : PySem.W.Frag} {mg mb : Str → Option Value} {CX : CXT} {k : Nat} {fa a : Addr} {fd : FuncData} {x : Str} {sp : Sp} {s₁ : Shared} {vs : List Value} {ns : List Int}
    (KX : K.In s₁.heap) (hns : s₁.heap.Ns mainGlobals mg) (hb : s₁.heap.Ns builtinsNs mb) (hbb : ∀ x : Str, x ≠ "__name__" → mb x = bootBuiltins x) (hlim : s₁.heap.NoLimit) (hg : s₁.gens = #[])
    (ha : s₁.heap.get? a = some { cls := .type "list", data := .seq vs.toArray }) (hi : IntsAre vs ns) (hl : ns.length ≤ sizeLine) (hr : Room k callerA)
    (F : ∀ base : Heap, K.In base → base.Ns mainGlobals mg → FnOk P w K mg base CX k fa fd [x] sp) (hbind : ∀ (s : Shared) (u : Value), BindsTo s fd ⟨[u], []⟩ [(x, u)])
    (hsp : ∀ H : Hp, Only H → SqL K H a (ns.map V.int) → sp [.ref a] H (fun v _ => v = .bl true) fun _ _ _ => False)
    (hCX : ∀ H e s', CX [] H s₁ (fun _ _ _ => False) e s' → False) :
    codeAny (model P w) callerA (.call (.ref fa) ⟨[.ref a], []⟩) (fun r s' => r = .ok (.ret (.bool true)) ∧ OldK s₁.heap s'.heap ∧ s'.os = s₁.os ∧ AllBare s'.gens) s₁ := by
  have rv := vals_ints hi
  have lenV := hi.length
  -- from an abstract heap in which nothing but the script may be tracked
  have core : ∀ H : Hp, Only H → SqL K H a (ns.map V.int) → HOk P w H s₁.heap → (∀ b, H b ≠ none → b = a) → (H a ≠ none → K.lookup a = none) →
      codeAny (model P w) callerA (.call (.ref fa) ⟨[.ref a], []⟩) (fun r s' => r = .ok (.ret (.bool true)) ∧ OldK s₁.heap s'.heap ∧ s'.os = s₁.os ∧ AllBare s'.gens) s₁ := by
    intro H hO hS hok hA hK
    have base_of : ∀ {b : Addr} {o : Obj}, s₁.heap.get? b = some o → H b = none → (hidT s₁.heap H).get? b = some o := fun e n => hidT_get e n
    have noA : ∀ {b : Addr} {o : Obj} {es : Array DictEntry} {ep : Nat}, s₁.heap.get? b = some o → o.data = .dict es ep → H b = none := fun {b o es ep} e d => by
      cases q : H b with
      | none => rfl
      | some u =>
        have e' : b = a := hA b (by rw [q]; simp)
        subst e'
        rw [ha] at e; cases e
        have d' : Data.seq vs.toArray _ = Data.dict es ep := d
        cases d'
    have nsK : ∀ {b : Addr} {m : Str → Option Value}, s₁.heap.Ns b m → (hidT s₁.heap H).Ns b m := fun {b m} ⟨o, es, ep, e, d, r⟩ => ⟨o, es, ep, base_of e (noA e d), d, r⟩
    have hKb : K.In (hidT s₁.heap H) := fun b o e => base_of (KX b o e) (by
      cases q : H b with
      | none => rfl
      | some u =>
        have e' : b = a := hA b (by rw [q]; simp)
        subst e'
        rw [hK (by rw [q]; simp)] at e; cases e)
    have hM : Mod K mg (hidT s₁.heap H) := ⟨hKb, nsK hns, ⟨mb, nsK hb, hbb⟩, let ⟨mc, h1, h2⟩ := hlim; ⟨mc, nsK h1, h2⟩⟩
    have e0 : Env0 P w K mg (hidT s₁.heap H) callerA [] s₁ H := ⟨rfl, hM, fun b o e => of_hidT e, Nat.le_of_eq (hidT_size _ _), trivial, fun b hb => absurd (show b ∈ ([] : List Addr) from hb) (by simp), hok, .of_eq hg⟩
    refine codeAny_mono ((F _ hKb (nsK hns)).run callerA [] s₁ H ⟨[.ref a], []⟩ [.ref a] [.ref a] _ _ hr e0 (hbind s₁ (.ref a)) (.cons rfl .nil) (hsp H hO hS)) fun r s' h => ?_
    cases r with
    | error e => exact (hCX H e s' h).elim
    | ok fl =>
      cases fl with
      | next => exact False.elim h
      | brk => exact False.elim h
      | cont => exact False.elim h
      | ret u =>
        obtain ⟨v, H', os, bare, un, hok', r', q⟩ := h
        have q' : v = .bl true := q
        subst q'
        obtain rfl : u = Value.bool true := r'
        refine ⟨rfl, OldK.of_keep fun b o e => ?_, os, bare⟩
        cases q : H b with
        | none => exact un.keep b o e q (by intro z; exact absurd (show b ∈ ([] : List Addr) from z) (by simp)) (by simp)
        | some u =>
          rcases hO b with z | ⟨ob, xs, z⟩
          · rw [q] at z; cases z
          · have z2 := un.frzs b ob _ z
            obtain ⟨e1, _⟩ := hok b _ z
            obtain ⟨e2, _⟩ := hok' b _ z2
            rw [e] at e1; cases e1
            exact e2
  cases hk : K.lookup a with
  | some o =>
    -- the script is one of the module's own objects
    have e := KX a o hk
    rw [ha] at e
    cases e
    refine core (fun _ => none) (fun _ => .inl rfl) (.inr ⟨_, vs.toArray, _, hk, rfl, rfl, rfl, by rw [List.size_toArray, lenV]; exact hl, by simpa using rv⟩) (fun b u z => by have z' : (none : Option HO) = some u := z; cases z') (fun b z => absurd rfl z) fun z => absurd rfl z
  | none =>
    refine core (fun b => if b = a then some (.frz { cls := .type "list", data := .seq vs.toArray } (.lst (ns.map V.int))) else none) (fun b => ?_) (.inl (.inr ⟨{ cls := .type "list", data := .seq vs.toArray }, if_pos rfl⟩)) (fun b u z => ?_) (fun b z => ?_) fun _ => hk
    · by_cases hb : b = a
      · exact .inr ⟨_, _, if_pos hb⟩
      · exact .inl (if_neg hb)
    · by_cases hb : b = a
      · have z' := (if_pos hb).symm.trans z
        cases z'
        subst hb
        exact ⟨ha, by rw [List.length_map]; exact hl, vs, _, rv, ha⟩
      · have z' := (if_neg hb).symm.trans z
        cases z'
    · by_cases hb : b = a
      · exact hb
      · exact absurd (if_neg hb) z
end L2

namespace L2
open PySem PySem.Spec PyProof.Rows

abbrev KOf {K : PySem.W.Frag} {h : Heap} (_ : K.In h) : PySem.W.Frag := K

/-- the goal that k_head leaves (case hc), from the law's promise. F gives the function object fd (K's own) once, then the promise over every base -/
theorem walk_of {l : PySem.W.OpenLaw} {n k : Nat} {q : Program} {loose : List Str} {XP : (Str → Option Value) → Heap → Prop} {YP : World → Heap → Prop} {d : DefRec} {K : Params → PySem.W.Frag} {CX : World → CXT} {sp : World → Sp} {x : Str}
    (hn : l.most = some n) (hn2 : n ≤ sizeLine) (hdf : d.params.defaults = []) (hr : Room k callerA)
    (hY : ∀ (w : World) (h : Heap), YP w h → (K w.params).In h)
    (F : ∀ (w : World) (mg : Str → Option Value) (fa : Addr) (h : Heap), (K w.params).In h → h.Ns mainGlobals mg → mg d.name = some (.ref fa) →
      ∃ fd : FuncData, (∀ (s : Shared) (u : Value), BindsTo s fd ⟨[u], []⟩ [(x, u)]) ∧
        ∀ base : Heap, (K w.params).In base → base.Ns mainGlobals mg → FnOk l.prog w (K w.params) mg base (CX w) k fa fd [x] (sp w))
    (hsp : ∀ (w : World) (H : Hp) (a : Addr) (ns : List Int), ns.length ≤ n → Only H → SqL (K w.params) H a (ns.map V.int) → sp w [.ref a] H (fun v _ => v = .bl true) fun _ _ _ => False)
    (hCX : ∀ (w : World) (H : Hp) (s : Shared) (e : Value) (s' : Shared), CX w [] H s (fun _ _ _ => False) e s' → False) :
    PySem.W.WalkO q loose XP YP l.row.toRowW d [] (fun f vs => PySem.call f vs) := by
  refine Att.attach_call hn hdf fun w s₀ s₁ mg mb fa o pm cd doc a vs ns G Y ho hd hcd hmg hobj hints hlen hg => ?_
  have KX := hY w _ Y
  obtain ⟨fd, hb, hF⟩ := F w mg fa _ KX G.T.g hmg
  exact law_call KX G.T.g G.T.b G.T.builtins G.T.nolimit hg hobj hints (Nat.le_trans hlen hn2) hr hF hb (fun H hO hS => hsp w H a ns hlen hO hS) fun H e s' => hCX w H s₁ e s'
end L2

/- THE LAST THEOREM (shape; LID, My.* are yours):
   My.Adr: a structure of the addresses that your layer names (classes, functions); My.Txt K t: a structure (Prop) of the equations over K;
   My.txt_mk : {K} {implicit addresses ..} (e1 : nsIn K mainGlobals "law" = some (some (.ref f))) (e2 : K.lookup f = some ⟨oc, od, .func (fnOf "law" "law" params body scope dV kV doc pm an cdv ct), sl⟩) (e3 : codeIn K cdv "law" = true) .. : ∃ t, My.Txt K t

set_option maxRecDepth 100000 in
set_option maxHeartbeats 0 in
theorem PySem.Challenge.cw_LID_holds : PySem.Challenge.rw_LID.Holds := by
  w_on; o_law; k_head; (case hw => w_witness2)
  k_fill
  refine L2.walk_of (l := PySem.Challenge.rw_LID) (n := 63) (k := 40) (x := "script") (CX := fun w => ..) (sp := fun _ => My.sp_law) rfl (by decide) rfl ⟨rfl, by decide, by decide⟩ (fun w h Y => PySem.W.kIn_of Y) ?F ?S ?C
  case F =>
    intro w mg fa h KX G hmg
    have T : ∃ t, My.Txt (L2.KOf KX) t := by
      dsimp only [L2.KOf]                          -- K must stand as «<heap const> w.params» for k_is
      refine' My.txt_mk ?e1 ?e2 ?e3 ..
      (case e1 => PySem.W.k_is)                    -- in the order: a name -> its address -> its object -> its parts
      (case e2 => PySem.W.k_is)
      ..
    obtain ⟨t, T⟩ := T
    have e0 := hmg.symm.trans (PySem.W.mg_of KX G T.law)
    cases e0                                       -- fa is the law's own address
    exact ⟨_, fun s u => .of_eq rfl, fun base kb nb => My.law_fn T kb nb⟩     -- if «.of_eq rfl» comes too early: refine' ⟨_, ?b, fun base kb nb => My.law_fn T kb nb⟩; exact fun s u => .of_eq rfl
  case S => exact fun w H a ns hl hO hS => ..
  case C => exact ..
(the tactic k_is has no namespace: write k_is) -/

/-! SHORT WORDS over the layer: a def of the text, its body, what a loop and a test want. -/
namespace L2
open PySem PySem.Spec PyProof.Rows

/-! ### the text by places -/
def defArgs (s : Stmt) : Arguments := match s with
  | .FunctionDef _ a _ _ _ _ _ _ _ _ => a
  | _ => { posonlyargs := [], args := [], vararg := none, kwonlyargs := [], kw_defaults := [], kwarg := none, defaults := [] }
def defBody (s : Stmt) : List Stmt := match s with
  | .FunctionDef _ _ b _ _ _ _ _ _ _ => b
  | _ => []
def defScope (s : Stmt) : Scope := match s with
  | .FunctionDef _ _ _ _ _ _ sc _ _ _ => sc
  | _ => { kind := .function, names := [], isGenerator := false, isCoroutine := false }

/-! ### no exception leaves a def -/
abbrev CX0 : CXT := fun _ _ _ _ _ _ => False
abbrev E0 : XK := fun _ _ _ => False
theorem pass0 {X : Cx} : Passes CX0 X E0 := fun _ _ _ _ _ _ _ h => h.elim

/-! ### a def (or method) of the text as it stands behind the top -/
structure Fun (K : PySem.W.Frag) (x qual : Str) (st : Stmt) (f : Addr) (fd : FuncData) : Prop where
  ex : ∃ (oc : Value) (od : Option Addr) (kV doc pm : Value) (an : Option Addr) (cdv ct : Value) (osl : Array (Option Value)),
    fd = PySem.W.fnOf x qual (defArgs st) (defBody st) (defScope st) .none kV doc pm an cdv ct ∧ K.lookup f = some ⟨oc, od, .func fd, osl⟩ ∧ PySem.W.codeIn K cdv qual = true
  kp : PySem.W.keepIn K (.ref f) = true
section
variable {P : Program} {w : World} {K : PySem.W.Frag} {mg : Str → Option Value} {base : Heap}
/-- THE RULE for a def: its body as a term of rules, and the reading of that term -/
theorem Fun.ok {x qual : Str} {st : Stmt} {f : Addr} {fd : FuncData} {N ps : List Str} {k : Nat} {sp : Sp} (F : Fun K x qual st f fd) (S : FnScope N ps (defScope st)) (len : ∀ vs H Q E, sp vs H Q E → vs.length = ps.length)
    (hbody : ∀ (cdv : Value) (A : Around) (outer : List Env) (s : Shared) (H : Hp) (vs : List V) (Q : VK) (E : XK), Room k (A.deeper (envOfC qual (defScope st) s.heap.objs.size f cdv)) → sp vs H Q E →
      ∃ t, PSs (cxOf CX0 P w K mg base N qual (defScope st) f cdv A outer s H E).nox (defBody st) t ∧ t { nx := fun _ H' => Q .non H', rt := Q } (start N vs) H) : FnOk P w K mg base CX0 (k + 1) f fd ps sp := by
  obtain ⟨oc, od, kV, doc, pm, an, cdv, ct, osl, rfl, lk, hcd⟩ := F.ex
  refine fn_of lk hcd S len fun A outer s H vs Q E hr hsp => ?_
  obtain ⟨t, h, q⟩ := hbody cdv A outer s H vs Q E hr hsp
  exact ⟨t, h.nox, q⟩
/-- how its arguments bind (no defaults): h is «fun _ _ _ _ _ _ us hl => match us, hl with | [_, _], _ => rfl», one _ a parameter -/
theorem Fun.binds {x qual : Str} {st : Stmt} {f : Addr} {fd : FuncData} {ps : List Str} (F : Fun K x qual st f fd)
    (h : ∀ (kV doc pm : Value) (an : Option Addr) (cdv ct : Value) (us : List Value), us.length = ps.length → bindArgs (PySem.W.fnOf x qual (defArgs st) (defBody st) (defScope st) .none kV doc pm an cdv ct) ⟨us, []⟩ = pure (ps.zip us)) : Binds K fd ps [] := by
  obtain ⟨oc, od, kV, doc, pm, an, cdv, ct, osl, rfl, lk, hcd⟩ := F.ex
  exact .all (h kV doc pm an cdv ct)
theorem fun_mk {x qual : Str} {st : Stmt} {f : Addr} {oc : Value} {od an : Option Addr} {osl : Array (Option Value)} {kV doc pm cdv ct : Value} (l : K.lookup f = some ⟨oc, od, .func (PySem.W.fnOf x qual (defArgs st) (defBody st) (defScope st) .none kV doc pm an cdv ct), osl⟩)
    (c : PySem.W.codeIn K cdv qual = true) (k : PySem.W.keepIn K (.ref f) = true) : Fun K x qual st f (PySem.W.fnOf x qual (defArgs st) (defBody st) (defScope st) .none kV doc pm an cdv ct) := ⟨⟨oc, od, kV, doc, pm, an, cdv, ct, osl, rfl, l, c⟩, k⟩
end
theorem hu_of {A : Around} {k : Nat} (hr : Room k A) : A.units + 1 < cLine := Nat.lt_of_le_of_lt (Nat.add_le_add_left (by decide : 1 ≤ 64) _) hr.units
/-! ### expressions in short: the name that stands in the i-th slot -/
section
variable {X : Cx}
theorem pv (i : Nat) {x : Str} {pos : Pos} (hN : X.N[i]? = some x := by rfl) (hv : Vis X.env.scope x := by first | exact Or.inl rfl | exact Or.inr (Or.inl rfl) | exact Or.inr (Or.inr rfl)) (hd : (x == ("__debug__" : Str)) = false := by decide)
    (hcd : (x == ("__classdict__" : Str)) = false := by decide) : PE X (.Name x pos) (tVar i) := pe_var hN hv hd hcd
end

/-! ### tests -/
theorem iteF {A B : Prop} (h : B) : if false = true then A else B := by
  rw [if_neg Bool.false_ne_true]
  exact h
theorem iteT {A B : Prop} (h : A) : if true = true then A else B := by
  rw [if_pos rfl]
  exact h
/-! ### heaps -/
/-- all that was tracked is as it was -/
def Same (H H' : Hp) : Prop := ∀ b o, H b = some o → H' b = some o
theorem Same.refl (H : Hp) : Same H H := fun _ _ h => h
theorem Same.trans {H H1 H2 : Hp} (a : Same H H1) (b : Same H1 H2) : Same H H2 := fun c o h => b c o (a c o h)
theorem Same.free {H H' : Hp} (e : Same H H') {l : Addr} (h : H' l = Option.none) : H l = Option.none := by
  cases q : H l with
  | none => rfl
  | some o =>
    rw [e l o q] at h
    cases h
theorem Same.seq {K : PySem.W.Frag} {H H' : Hp} {a : Addr} {xs : List V} (e : Same H H') (h : SqL K H a xs) : SqL K H' a xs := by
  rcases h with (h | ⟨o, h⟩) | h
  · exact .inl (.inl (e _ _ h))
  · exact .inl (.inr ⟨o, e _ _ h⟩)
  · exact .inr h

end L2

set_option Elab.async false
set_option linter.all false
set_option maxRecDepth 100000
set_option maxHeartbeats 4000000
namespace L2
open PySem PySem.Spec PyProof.Rows

/-! ### lists of pairs as tables -/
section
variable {κ : Type} [DecidableEq κ]
def valV (kvs : List (κ × V)) (k : κ) : Option V := (kvs.find? fun kv => decide (kv.1 = k)).map (·.2)
/-- in its place, or at the end -/
def putK (kvs : List (κ × V)) (k : κ) (v : V) : List (κ × V) :=
  if (kvs.any fun kv => decide (kv.1 = k)) = true then kvs.map (fun kv => if kv.1 = k then (kv.1, v) else kv) else kvs ++ [(k, v)]
def dropK (kvs : List (κ × V)) (k : κ) : List (κ × V) := kvs.filter fun kv => decide (kv.1 ≠ k)

theorem valV_pos {p : κ × V} {r : List (κ × V)} {k : κ} (e : p.1 = k) : valV (p :: r) k = some p.2 := by simp [valV, List.find?_cons, e]
theorem valV_neg {p : κ × V} {r : List (κ × V)} {k : κ} (e : ¬ p.1 = k) : valV (p :: r) k = valV r k := by simp [valV, List.find?_cons, e]
theorem valV_any (k : κ) : ∀ kvs : List (κ × V), (kvs.any fun kv => decide (kv.1 = k)) = (valV kvs k).isSome
  | [] => rfl
  | p :: r => by
    rw [List.any_cons]
    by_cases e : p.1 = k
    · simp only [valV_pos e, decide_eq_true e, Bool.true_or, Option.isSome_some]
    · rw [valV_neg e, decide_eq_false e, Bool.false_or]; exact valV_any k r
theorem length_putK (kvs : List (κ × V)) (k : κ) (v : V) : (putK kvs k v).length ≤ kvs.length + 1 := by
  unfold putK
  split
  · rw [List.length_map]; omega
  · rw [List.length_append, List.length_cons, List.length_nil]; omega
theorem putK_new {kvs : List (κ × V)} {k : κ} (v : V) (h : valV kvs k = none) : putK kvs k v = kvs ++ [(k, v)] := by
  unfold putK
  rw [valV_any, h]
  exact if_neg (by decide)

theorem RelO.isSome_eq {o : Option V} {u : Option Value} (r : RelO o u) : o.isSome = u.isSome := by
  cases o with
  | none => cases u with
    | none => rfl
    | some _ => exact (show False from r).elim
  | some _ => cases u with
    | none => exact (show False from r).elim
    | some _ => rfl
theorem RelO.getD {o : Option V} {u : Option Value} {d : V} {d' : Value} (r : RelO o u) (rd : RelV d d') : RelV (o.getD d) (u.getD d') := by
  cases o with
  | none => cases u with
    | none => exact rd
    | some _ => exact (show False from r).elim
  | some _ => cases u with
    | none => exact (show False from r).elim
    | some _ => exact r

/-- raw tables of the same keys -/
theorem KV.val {kvs : List (κ × V)} {vs : List (κ × Value)} (r : KV kvs vs) (k : κ) : RelO (valV kvs k) (valueAt vs k) := by
  unfold KV at r
  induction r with
  | nil => exact True.intro
  | @cons p q ps qs h t ih =>
    obtain ⟨h1, h2⟩ := h
    by_cases e : p.1 = k
    · have e' : q.1 = k := h1.symm.trans e
      have b : valueAt (q :: qs) k = some q.2 := by simp [valueAt, List.find?_cons, e']
      rw [valV_pos e, b]; exact h2
    · have e' : ¬ q.1 = k := fun z => e (h1.trans z)
      have b : valueAt (q :: qs) k = valueAt qs k := by simp [valueAt, List.find?_cons, e']
      rw [valV_neg e, b]; exact ih
theorem KV.any {kvs : List (κ × V)} {vs : List (κ × Value)} (r : KV kvs vs) (k : κ) : (kvs.any fun kv => decide (kv.1 = k)) = vs.any fun kv => decide (kv.1 = k) := by
  unfold KV at r
  induction r with
  | nil => rfl
  | cons h t ih => rw [List.any_cons, List.any_cons, ih, h.1]
theorem KV.repl {kvs : List (κ × V)} {vs : List (κ × Value)} (r : KV kvs vs) (k : κ) {y : V} {u : Value} (ry : RelV y u) :
    KV (kvs.map fun kv => if kv.1 = k then (kv.1, y) else kv) (vs.map fun kv => if kv.1 = k then (kv.1, u) else kv) := by
  unfold KV at r ⊢
  induction r with
  | nil => exact .nil
  | @cons p q ps qs h t ih =>
    rw [List.map_cons, List.map_cons]
    refine .cons ?_ ih
    obtain ⟨h1, h2⟩ := h
    by_cases e : p.1 = k
    · rw [if_pos e, if_pos (h1.symm.trans e)]; exact ⟨h1, ry⟩
    · rw [if_neg e, if_neg (fun z => e (h1.trans z))]; exact ⟨h1, h2⟩
theorem KV.put {kvs : List (κ × V)} {vs : List (κ × Value)} (r : KV kvs vs) (k : κ) {y : V} {u : Value} (ry : RelV y u) : KV (putK kvs k y) (stored vs k u) := by
  unfold putK stored
  rw [r.any k]
  by_cases e : (vs.any fun kv => decide (kv.1 = k)) = true
  · rw [if_pos e, if_pos e]; exact r.repl k ry
  · rw [if_neg e, if_neg e]; exact Paired.snoc r ⟨rfl, ry⟩
theorem KV.drop {kvs : List (κ × V)} {vs : List (κ × Value)} (r : KV kvs vs) (k : κ) : KV (dropK kvs k) (without vs k) := by
  unfold KV at r ⊢
  unfold dropK without
  induction r with
  | nil => exact .nil
  | @cons p q ps qs h t ih =>
    obtain ⟨h1, h2⟩ := h
    rw [List.filter_cons, List.filter_cons]
    by_cases e : p.1 = k
    · have a : ¬ decide (p.1 ≠ k) = true := by simp [e]
      have b : ¬ decide (q.1 ≠ k) = true := by simp [h1.symm.trans e]
      rw [if_neg a, if_neg b]; exact ih
    · have e' : ¬ q.1 = k := fun z => e (h1.trans z)
      have a : decide (p.1 ≠ k) = true := by simp [e]
      have b : decide (q.1 ≠ k) = true := by simp [e']
      rw [if_pos a, if_pos b]; exact .cons ⟨h1, h2⟩ ih
theorem KV.keys {kvs : List (κ × V)} {vs : List (κ × Value)} (r : KV kvs vs) : kvs.map (·.1) = vs.map (·.1) := by
  unfold KV at r
  induction r with
  | nil => rfl
  | cons h t ih => rw [List.map_cons, List.map_cons, ih, h.1]
theorem KV.length {kvs : List (κ × V)} {vs : List (κ × Value)} (r : KV kvs vs) : kvs.length = vs.length := Paired.length r
end


/-! ### a tracked dict, its keys ints and texts or tuples of these -/
theorem kV_is {P : Program} {w : World} {k : Key} {u : Value} (r : RelV (kV k) u) : (mixKind P w).is k u = true := by
  cases k with
  | inl i => obtain ⟨t, e⟩ := (show ∃ t, u = Value.int i t from r); subst e; exact mixKind_int P w i t
  | inr x => obtain ⟨t, e⟩ := (show ∃ t, u = Value.str x t from r); subst e; exact mixKind_str P w x t
theorem items_are {P : Program} {w : World} : ∀ {ks : List Key} {us : List Value}, Vals (ks.map kV) us → ItemsAre (mixKind P w) ks us
  | [], _, r => by rw [List.map_nil] at r; cases r; exact .nil
  | k :: ks, _, r => by
    rw [List.map_cons] at r
    cases r with
    | cons h t => exact .cons (kV_is h) (items_are t)

/-- raw entries of a dict with tuple keys -/
abbrev KT (H : Hp) : List (List Key × V) → List (List Key × Addr × Value) → Prop := Paired fun p q => p.1 = q.1 ∧ H q.2.1 = some (.tup (p.1.map kV)) ∧ RelV p.2 q.2.2
theorem KT.val {H : Hp} {kvs : List (List Key × V)} {xs : List (List Key × Addr × Value)} (r : KT H kvs xs) (k : List Key) : RelO (valV kvs k) ((atKey xs k).map (·.2)) := by
  induction r with
  | nil => exact True.intro
  | @cons p q ps qs h t ih =>
    obtain ⟨h1, _, h2⟩ := h
    by_cases e : p.1 = k
    · have e' : q.1 = k := h1.symm.trans e
      have b : atKey (q :: qs) k = some q.2 := by simp [atKey, List.find?_cons, e']
      rw [valV_pos e, b]; exact h2
    · have e' : ¬ q.1 = k := fun z => e (h1.trans z)
      have b : atKey (q :: qs) k = atKey qs k := by simp [atKey, List.find?_cons, e']
      rw [valV_neg e, b]; exact ih
theorem KT.repl {H : Hp} {kvs : List (List Key × V)} {xs : List (List Key × Addr × Value)} (r : KT H kvs xs) (k : List Key) {y : V} {u : Value} (ry : RelV y u) :
    KT H (kvs.map fun kv => if kv.1 = k then (kv.1, y) else kv) (xs.map (putAt k u)) := by
  induction r with
  | nil => exact .nil
  | @cons p q ps qs h t ih =>
    rw [List.map_cons, List.map_cons]
    refine .cons ?_ ih
    obtain ⟨h1, h2, h3⟩ := h
    unfold putAt
    by_cases e : p.1 = k
    · rw [if_pos e, if_pos (h1.symm.trans e)]; exact ⟨h1, h2, ry⟩
    · rw [if_neg e, if_neg (fun z => e (h1.trans z))]; exact ⟨h1, h2, h3⟩
theorem KT.put {H : Hp} {kvs : List (List Key × V)} {xs : List (List Key × Addr × Value)} (r : KT H kvs xs) (k : List Key) {b : Addr} {y : V} {u : Value} (hb : H b = some (.tup (k.map kV))) (ry : RelV y u) :
    KT H (putK kvs k y) (storedH xs k b u) := by
  have e : (kvs.any fun kv => decide (kv.1 = k)) = (atKey xs k).isSome := by
    rw [valV_any, (r.val k).isSome_eq, Option.isSome_map]
  unfold putK storedH
  rw [e]
  by_cases q : (atKey xs k).isSome = true
  · rw [if_pos q, if_pos q]; exact r.repl k ry
  · rw [if_neg q, if_neg q]; exact Paired.snoc r ⟨rfl, hb, ry⟩
theorem KT.keeps {H H' : Hp} {kvs : List (List Key × V)} {xs : List (List Key × Addr × Value)} (r : KT H kvs xs) (ht : ∀ b ys, H b = some (.tup ys) → H' b = some (.tup ys)) : KT H' kvs xs :=
  Paired.mapP r fun _ _ z => ⟨z.1, ht _ _ z.2.1, z.2.2⟩

section
variable {P : Program} {w : World} {H : Hp} {h : Heap} {a : Addr}
theorem rd_of {u : HO} (ok : HOk P w H h) (e : Rd H a u) : ObjOk P w H h a u := e.ok ok
theorem dk_rd {kvs : List (Key × V)} (ok : HOk P w H h) (e : Rd H a (.dK kvs)) : kvs.length ≤ sizeLine ∧ (a == sysModules) = false ∧ ∃ vs, KV kvs vs ∧ h.DictOf (mixKind P w) a vs :=
  show ObjOk P w H h a (.dK kvs) from rd_of ok e
theorem dk_of {kvs : List (Key × V)} (ok : HOk P w H h) (e : H a = some (.dK kvs)) : kvs.length ≤ sizeLine ∧ (a == sysModules) = false ∧ ∃ vs, KV kvs vs ∧ h.DictOf (mixKind P w) a vs := dk_rd ok (.inl e)
/-- a tracked tuple of ints and texts is a key -/
theorem key_of {ks : List Key} (ok : HOk P w H h) (e : H a = some (.tup (ks.map kV))) : (tupleKind (mixKind P w)).is h ks a := by
  obtain ⟨_, its, r, o, h1, h2, n, h3⟩ := (show ObjOk P w H h a (.tup (ks.map kV)) from ok a _ e)
  exact ⟨o, its.toArray, n, h1, h2, h3, by simpa using items_are r⟩
theorem dt_rd {kvs : List (List Key × V)} (ok : HOk P w H h) (e : Rd H a (.dT kvs)) : kvs.length ≤ sizeLine ∧ (a == sysModules) = false ∧
    ∃ xs, KT H kvs xs ∧ h.DictOfH (tupleKind (mixKind P w)) a xs := by
  obtain ⟨z, y, xs, r, o, es, ep, h1, h2, h3, h4, h5⟩ := (show ObjOk P w H h a (.dT kvs) from rd_of ok e)
  refine ⟨z, y, xs, r, o, es, ep, h1, h2, h3, h4, fun x hx => ?_, h5⟩
  have all : ∀ {l : List (List Key × V)} {m : List (List Key × Addr × Value)}, KT H l m → ∀ x ∈ m, (tupleKind (mixKind P w)).is h x.1 x.2.1 := by
    intro l m q
    induction q with
    | nil => intro x hx; exact nomatch hx
    | @cons p q ps qs hq t ih =>
      intro x hx
      rcases List.mem_cons.mp hx with e | hx
      · subst e
        exact key_of ok (by rw [← hq.1]; exact hq.2.1)
      · exact ih x hx
  exact all r x hx
theorem dt_of {kvs : List (List Key × V)} (ok : HOk P w H h) (e : H a = some (.dT kvs)) : kvs.length ≤ sizeLine ∧ (a == sysModules) = false ∧
    ∃ xs, KT H kvs xs ∧ h.DictOfH (tupleKind (mixKind P w)) a xs := dt_rd ok (.inl e)
end

/-- what the dict at a holds at the key y -/
def DGet (H : Hp) (a : Addr) (y : V) (r : Option V) : Prop :=
  (∃ kvs k, Rd H a (.dK kvs) ∧ y = kV k ∧ r = valV kvs k) ∨ ∃ kvs k b, Rd H a (.dT kvs) ∧ y = .ref b ∧ H b = some (.tup (k.map kV)) ∧ r = valV kvs k
/-- the heap behind a[y] = v -/
def DPut (H : Hp) (a : Addr) (y v : V) (H' : Hp) : Prop :=
  (∃ kvs k, H a = some (.dK kvs) ∧ y = kV k ∧ kvs.length < sizeLine ∧ H' = upd H a (.dK (putK kvs k v))) ∨
  ∃ kvs k b, H a = some (.dT kvs) ∧ y = .ref b ∧ H b = some (.tup (k.map kV)) ∧ kvs.length < sizeLine ∧ H' = upd H a (.dT (putK kvs k v))
theorem DGet.k {H : Hp} {a : Addr} {kvs : List (Key × V)} {k : Key} (e : H a = some (.dK kvs)) : DGet H a (kV k) (valV kvs k) := .inl ⟨kvs, k, .inl e, rfl, rfl⟩
theorem DGet.t {H : Hp} {a b : Addr} {kvs : List (List Key × V)} {k : List Key} (e : H a = some (.dT kvs)) (eb : H b = some (.tup (k.map kV))) : DGet H a (.ref b) (valV kvs k) := .inr ⟨kvs, k, b, .inl e, rfl, eb, rfl⟩
theorem DPut.k {H : Hp} {a : Addr} {kvs : List (Key × V)} {k : Key} {v : V} (e : H a = some (.dK kvs)) (hl : kvs.length < sizeLine) : DPut H a (kV k) v (upd H a (.dK (putK kvs k v))) := .inl ⟨kvs, k, e, rfl, hl, rfl⟩
theorem DPut.t {H : Hp} {a b : Addr} {kvs : List (List Key × V)} {k : List Key} {v : V} (e : H a = some (.dT kvs)) (eb : H b = some (.tup (k.map kV))) (hl : kvs.length < sizeLine) :
    DPut H a (.ref b) v (upd H a (.dT (putK kvs k v))) := .inr ⟨kvs, k, b, e, rfl, eb, hl, rfl⟩


section
variable {X : Cx} {pins : List (Addr × Obj)} {σ : St} {H : Hp} {s : Shared} {a : Addr} {y v : V} {u r : Value} {o : Option V} {A : Around} {E : Value → Shared → Prop}

theorem Inv.big (I : Inv X pins σ H s) : sysModules < s.heap.objs.size := by
  have h : mainGlobals < s.heap.objs.size := (I.mod.glob.keeps I.bk).lt
  exact Nat.lt_trans (by decide) h

/-- d[y], there -/
theorem d_getItem {Q : Value → Shared → Prop} (hu : A.units + 1 < cLine) (I : Inv X pins σ H s) (g : DGet H a y (some v)) (ry : RelV y u) (h : ∀ w' s', Inv X pins σ H s' → RelV v w' → Q w' s') :
    wpAny (model X.prog X.w) A (getItem (.ref a) u) Q E s := by
  rcases g with ⟨kvs, k, e, ey, l⟩ | ⟨kvs, k, b, e, ey, eb, l⟩
  · subst ey
    obtain ⟨z, hd, vs, rel, dd⟩ := dk_rd I.hok e
    obtain ⟨w', hw, rw'⟩ := RelO.some_of (v := v) (o := valueAt vs k) (by rw [l]; exact rel.val k)
    exact wpAny_getItem_of (kV_is ry) dd.mapOf hw (h w' _ (I.tok _) rw')
  · subst ey
    cases (show u = Value.ref b from ry)
    obtain ⟨z, hd, xs, rel, dd⟩ := dt_rd I.hok e
    obtain ⟨w', hw, rw'⟩ := RelO.some_of (v := v) (o := (atKey xs k).map (·.2)) (by rw [l]; exact rel.val k)
    obtain ⟨p, hp, hp2⟩ := Option.map_eq_some_iff.mp hw
    refine wpAny_getItem_heap (tupleKind_room_in1 hu) (key_of I.hok eb) dd hp ?_
    rw [hp2]
    exact h w' _ (I.tok _) rw'
/-- y in d -/
theorem d_in {Q : Value → Shared → Prop} (hu : A.units + 1 < cLine) (I : Inv X pins σ H s) (g : DGet H a y o) (ry : RelV y u) (h : ∀ s', Inv X pins σ H s' → Q (.bool o.isSome) s') :
    wpAny (model X.prog X.w) A (compareOp .In u (.ref a)) Q E s := by
  rcases g with ⟨kvs, k, e, ey, l⟩ | ⟨kvs, k, b, e, ey, eb, l⟩
  · subst ey
    obtain ⟨z, hd, vs, rel, dd⟩ := dk_rd I.hok e
    refine wpAny_in_of (kV_is ry) hd dd.mapOf ?_
    rw [← (rel.val k).isSome_eq, ← l]
    exact h _ (I.tok _)
  · subst ey
    cases (show u = Value.ref b from ry)
    obtain ⟨z, hd, xs, rel, dd⟩ := dt_rd I.hok e
    refine wpAny_in_heap (tupleKind_room_in1 hu) (key_of I.hok eb) hd dd ?_
    have q := (rel.val k).isSome_eq
    rw [Option.isSome_map] at q
    rw [← q, ← l]
    exact h _ (I.tok _)
/-- a dict's object is replaced -/
theorem d_write {h' : Heap} {t' : Nat} {ob : HO} (I : Inv X pins σ H s) (mu : Mut (H a)) (hs : Heap.SameBut a s.heap h') (he : ∃ q, h'.get? a = some q) (new : ObjOk X.prog X.w (upd H a ob) h' a ob) :
    Inv X pins σ (upd H a ob) { s with heap := h', toks := t' } :=
  I.write (x := a) (e := a) mu (.inl rfl) (fun b q hb z => (hs.2 b hb).trans z) he new
theorem dk_new {P : Program} {w : World} {H' : Hp} {h' : Heap} {kvs : List (Key × V)} {vs : List (Key × Value)} (z : kvs.length ≤ sizeLine) (hd : (a == sysModules) = false) (rel : KV kvs vs) (dd : h'.DictOf (mixKind P w) a vs) :
    ObjOk P w H' h' a (.dK kvs) := ⟨z, hd, vs, rel, dd⟩
/-- d[y] = v -/
theorem d_setItem {H' : Hp} {Q : Unit → Shared → Prop} (hu : A.units + 1 < cLine) (I : Inv X pins σ H s) (g : DPut H a y v H') (ry : RelV y u) (rv : RelV v r) (h : ∀ s', Inv X pins σ H' s' → Q () s') :
    wpAny (model X.prog X.w) A (setItem (.ref a) u r) Q E s := by
  rcases g with ⟨kvs, k, e, ey, l, eH⟩ | ⟨kvs, k, b, e, ey, eb, l, eH⟩
  · subst ey eH
    obtain ⟨z, hd, vs, rel, dd⟩ := dk_of I.hok e
    have hz : vs.length ≤ sizeLine := by rw [← rel.length]; exact z
    have hl : (putK kvs k v).length ≤ sizeLine := by have := length_putK kvs k v; omega
    refine wpAny_setItem_pairs (hsz := hz) (kV_is ry) dd fun h' dd' hs => h _ ?_
    have he : ∃ q, h'.get? a = some q := let ⟨q, _, _, hq, _⟩ := dd'; ⟨q, hq⟩
    exact d_write I (by rw [e]; exact True.intro) hs he (dk_new hl hd (rel.put k rv) dd')
  · subst ey eH
    cases (show u = Value.ref b from ry)
    obtain ⟨z, hd, xs, rel, dd⟩ := dt_of I.hok e
    have hz : xs.length ≤ sizeLine := by rw [← Paired.length rel]; exact z
    have hl : (putK kvs k v).length ≤ sizeLine := by have := length_putK kvs k v; omega
    refine wpAny_setItem_heap (hsz := hz) (tupleKind_room_in1 hu) (key_of I.hok eb) dd fun h' dd' hs => h _ ?_
    obtain ⟨q, es, ep, hq, h2, h3, h4, _, h5⟩ := dd'
    refine d_write I (by rw [e]; exact True.intro) hs ⟨q, hq⟩ ⟨hl, hd, _, (rel.put k eb rv).keeps fun c ys ec => ?_, q, es, ep, hq, h2, h3, h4, h5⟩
    rw [upd_ne (ne_of ec e (fun z => nomatch z))]
    exact ec
end

section
variable {X : Cx} {pins : List (Addr × Obj)} {σ : St} {H : Hp} {s : Shared} {a : Addr} {kvs : List (Key × V)} {k : Key} {u : Value} {A : Around} {E : Value → Shared → Prop}
end


/-! ### readings and rules -/
/-- the element of a subscription, not a slice -/
def NoSl (i : Expr) : Prop := ∀ ov iv, subscripted i false ov iv = operate [ov, iv] (getItem ov iv)
theorem subD_of {prog : Program} {w : World} {A : Around} {E : Value → Shared → Prop} {s : Shared} {env : Env} {value slice : Expr} {pos : Pos} {T id : String} {Q : Value → Shared → Prop}
    (hl : typeLookup (.type T) "__getitem__" = pure (some (.builtin id))) (hs : NoSl slice)
    (h : wpAny (model prog w) A (eval value env) (fun o s₁ => wpAny (model prog w) A (eval slice env) (fun i s₂ => s₂.TypeIs o T ∧ wpAny (model prog w) A (getItem o i) Q E s₂) E s₁) E s) :
    wpAny (model prog w) A (eval (.Subscript value slice pos) env) Q E s := by
  refine Subscript_ (wpAny_mono h (fun o s₁ h₁ => wpAny_mono h₁ (fun i s₂ h₂ => ?_) fun _ _ x => x) fun _ _ x => x)
  obtain ⟨hT, h₂⟩ := h₂
  unfold subscriptTail
  refine wpAny_bind ?_
  rw [getitemInPython_of_ne hT.not_modules]
  refine wpAny_bind (wpAny_specialOf hT hl ?_)
  have fin : wpAny (model prog w) A (subscripted slice false o i) (fun r s₃ => wpAny (model prog w) A (letTemporaryGo value o r >>= fun _ => pure r) Q E s₃) E s₂ := by
    rw [hs o i]
    exact wpAny_operating (wpAny_mono h₂ (fun r s₃ h₃ => wpAny_bind (wpAny_letTemporaryGo (wpAny_pure h₃))) fun _ _ x => x)
  first
    | exact wpAny_pure (wpAny_bind fin)
    | exact wpAny_bind (wpAny_pure (wpAny_bind fin))
    | exact wpAny_bind fin

theorem dict_typeIs {X : Cx} {pins : List (Addr × Obj)} {σ : St} {H : Hp} {s : Shared} {a : Addr} {y : V} {o : Option V} (I : Inv X pins σ H s) (g : DGet H a y o) : s.TypeIs (.ref a) "dict" := by
  rcases g with ⟨kvs, k, e, _, _⟩ | ⟨kvs, k, b, e, _, _, _⟩
  · obtain ⟨_, _, vs, _, dd⟩ := dk_rd I.hok e
    exact dd.typeIs
  · obtain ⟨_, _, xs, _, dd⟩ := dt_rd I.hok e
    exact dd.typeIs
/-- d[y] -/
def tDGet (td ty : TE) : TE := fun σ H Q => td σ H fun x H1 => ty σ H1 fun y H2 => ∃ a v, x = .ref a ∧ DGet H2 a y (some v) ∧ Q v H2
/-- y in d, y not in d -/
def tDIn (ty td : TE) : TE := fun σ H Q => ty σ H fun y H1 => td σ H1 fun x H2 => ∃ a o, x = .ref a ∧ DGet H2 a y o ∧ Q (.bl o.isSome) H2
/-- d[y] = v -/
def sDPut (td ty tv : TE) : TS := fun D σ H => tv σ H fun v H1 => td σ H1 fun x H2 => ty σ H2 fun y H3 => ∃ a H4, x = .ref a ∧ DPut H3 a y v H4 ∧ D.nx σ H4
section
variable {X : Cx} {o i e value : Expr} {pos pos' tpos : Pos} {td ty tv : TE}
theorem pe_dget (hu : X.A.units + 1 < cLine) (ho : PE X o td) (hi : PE X i ty) (hs : NoSl i) : PE X (.Subscript o i pos) (tDGet td ty) := by
  intro pins s σ H Q I h
  refine subD_of PySem.F.slot_dict_getitem.lookup hs (thn (ho pins s σ H _ I h) fun u s1 ⟨x, H1, I1, rx, q1⟩ => thn (hi pins s1 σ H1 _ I1 q1) fun iv s2 ⟨y, H2, I2, ry, a, v, ex, g, q2⟩ => ?_)
  subst ex
  obtain rfl : u = Value.ref a := rx
  exact ⟨dict_typeIs I2 g, d_getItem hu I2 g ry fun w' s3 I3 rw' => ⟨v, H2, I3, rw', q2⟩⟩
theorem pc_din (hu : X.A.units + 1 < cLine) (hi : PE X i ty) (ho : PE X o td) : PC X .In i o (tDIn ty td) := by
  intro pins s σ H Q I h
  refine thn (hi pins s σ H _ I h) fun iv s1 ⟨y, H1, I1, ry, q1⟩ => thn (ho pins s1 σ H1 _ I1 q1) fun u s2 ⟨x, H2, I2, rx, a, ov, ex, g, q2⟩ => ?_
  subst ex
  obtain rfl : u = Value.ref a := rx
  exact d_in hu I2 g ry fun s3 I3 => ⟨.bl ov.isSome, H2, I3, rfl, q2⟩
theorem ps_dput (hu : X.A.units + 1 < cLine) (ho : PE X o td) (hi : PE X i ty) (hv : PE X value tv) (hs : swapsWith value (some (.Subscript o i pos')) pos.line X.env = pure false) :
    PS X (.Assign [.Subscript o i pos'] value pos) (sDPut td ty tv) := by
  intro pins s σ H D I h
  refine wpAny_Assign_Subscript (thn (hv pins s σ H _ I h) fun r s1 ⟨v, H1, I1, rv, q1⟩ => thn (ho pins s1 σ H1 _ I1 q1) fun u s2 ⟨x, H2, I2, rx, q2⟩ => thn (hi pins s2 σ H2 _ I2 q2) fun iv s3 ⟨y, H3, I3, ry, a, H4, ex, g, q3⟩ => ?_) hs
  subst ex
  obtain rfl : u = Value.ref a := rx
  exact d_setItem hu I3 g ry rv fun s4 I4 => ⟨σ, H4, I4, q3⟩
end


/-! ### displays -/
theorem dk_empty {P : Program} {w : World} {H : Hp} (h : Heap) (hb : sysModules < h.objs.size) : ObjOk P w H (h.push { cls := .type "dict", data := .dict #[] }) h.objs.size (.dK []) :=
  ⟨Nat.zero_le _, beq_eq_false_iff_ne.mpr (Ne.symm (Nat.ne_of_lt hb)), [], .nil, Heap.DictOf.new h⟩
/-- {}, to be a dict of the kind that is wanted -/
def tDNewK : TE := fun _ H Q => ∀ p, H p = none → Q (.ref p) (upd H p (.dK []))
section
variable {X : Cx} {pos : Pos}
theorem pe_dnewK : PE X (.Dict [] [] pos) tDNewK := fun pins s σ H Q I h =>
  wpAny_Dict_empty ⟨.ref s.heap.objs.size, _, I.laid (a := s.heap.objs.size) (o := .dK []) (t' := s.toks) (fun _ _ q => Heap.get?_push_of_some _ q) (Nat.le_refl _) (dk_empty s.heap I.big), rfl, h _ (I.hok.fresh (Nat.le_refl _))⟩
end

def mergeK (kvs more : List (Key × V)) : List (Key × V) := more.foldl (fun acc kv => putK acc kv.1 kv.2) kvs
theorem KV.merge : ∀ {more : List (Key × V)} {rs : List (Key × Value)} {kvs : List (Key × V)} {vs : List (Key × Value)}, KV more rs → KV kvs vs → KV (mergeK kvs more) (merged vs rs) := by
  intro more rs kvs vs r
  unfold KV at r
  induction r generalizing kvs vs with
  | nil => intro q; exact q
  | @cons p q ps qs h t ih =>
    intro r0
    have e : KV (putK kvs p.1 p.2) (stored vs q.1 q.2) := by
      have := r0.put p.1 h.2
      rw [← h.1]; exact this
    exact ih e
/-! ### methods -/
/-- a method call o.m(e) of a built-in, with one argument: what must be seen of the text -/
structure M1 (X : Cx) (o : Expr) (m : Str) (apos : Pos) (e : Expr) (cpos : Pos) : Prop where
  base : attributeBase o m X.env (eval o X.env) = eval o X.env
  few : ((backTo cpos (starEach [e] X.env)).all (fun x => !x.1) && (backToKw cpos (keywordEach [] X.env)).all (fun x => x.1.isSome)
    && decide (([e] : List Expr).length + ([] : List Keyword).length + (if ([] : List Keyword).isEmpty then 0 else 1) < 30)) = true
  line : (apos.endLine == cpos.line) = true
  trees : backTo cpos (starEach [e] X.env) = [(false, eval e X.env)]
structure M2 (X : Cx) (o : Expr) (m : Str) (apos : Pos) (e f : Expr) (cpos : Pos) : Prop where
  base : attributeBase o m X.env (eval o X.env) = eval o X.env
  few : ((backTo cpos (starEach [e, f] X.env)).all (fun x => !x.1) && (backToKw cpos (keywordEach [] X.env)).all (fun x => x.1.isSome)
    && decide (([e, f] : List Expr).length + ([] : List Keyword).length + (if ([] : List Keyword).isEmpty then 0 else 1) < 30)) = true
  line : (apos.endLine == cpos.line) = true
  trees : backTo cpos (starEach [e, f] X.env) = [(false, eval e X.env), (false, eval f X.env)]

section
variable {X : Cx} {pins : List (Addr × Obj)} {σ : St} {H : Hp} {s : Shared} {a : Addr} {y d : V} {u r : Value} {o : Option V} {A : Around} {E : Value → Shared → Prop}
end

section
variable {X : Cx} {o e f : Expr} {apos cpos : Pos} {td ty tx : TE}
end

/-! ### dict(d): a copy -/
section
variable {X : Cx} {pins : List (Addr × Obj)} {σ : St} {H : Hp} {s : Shared} {a : Addr} {kvs : List (Key × V)} {A : Around} {E : Value → Shared → Prop}
end


section
variable {X : Cx} {pins : List (Addr × Obj)} {σ : St} {H : Hp} {s : Shared} {a : Addr} {y : V} {u : Value} {A : Around} {E : Value → Shared → Prop}
end
end L2

namespace L2
open PySem PySem.Spec PyProof.Rows
section
variable {X : Cx}
end
/-! ### a dict's pairs: keys that differ -/
section
variable {κ : Type} [DecidableEq κ]
end
end L2

set_option Elab.async false
set_option linter.all false
set_option maxRecDepth 100000
set_option maxHeartbeats 4000000
/-! MY OWN ADDITIONS to the hand layer: texts -/
namespace L2
open PySem PySem.Spec PyProof.Rows PySem.Builtin PySem.Builtin.Str

/-- a text by its codes -/
def T (l : List Nat) : Str := ⟨l.toArray⟩
theorem T_inj {a b : List Nat} : T a = T b ↔ a = b := by
  constructor
  · intro h
    have := congrArg (fun x : Str => x.cps.toList) h
    simpa [T] using this
  · rintro rfl; rfl
section
variable {X : Cx}
end

/-! ### for over a text's signs -/
section
variable {X : Cx} {tg : Expr}
end
end L2

set_option Elab.async false
set_option linter.all false
set_option maxRecDepth 100000
set_option maxHeartbeats 4000000
/-! MY OWN ADDITIONS to the hand layer: list comprehensions of one clause -/
namespace L2
open PySem PySem.Spec PyProof.Rows

/-- the cells that a block closes over -/
def clos (cells : List (Str × Addr)) : List (Str × NameKind) → List (Str × Addr) → List (Str × Addr)
  | [], acc => acc
  | (n, k) :: r, acc => if k == .free then (match cells.lookup n with | some c => clos cells r ((n, c) :: acc) | none => clos cells r acc) else clos cells r acc
theorem clos_sub {cells : List (Str × Addr)} : ∀ (names : List (Str × NameKind)) (acc : List (Str × Addr)), (∀ x c, acc.lookup x = some c → cells.lookup x = some c) → ∀ x c, (clos cells names acc).lookup x = some c → cells.lookup x = some c
  | [], _, h => h
  | (n, k) :: r, acc, h => by
    intro x c
    unfold clos
    split
    · cases e : cells.lookup n with
      | none => exact clos_sub r acc h x c
      | some d =>
        refine clos_sub r _ (fun y z hy => ?_) x c
        rw [List.lookup_cons] at hy
        cases q : y == n with
        | true =>
          rw [q] at hy
          have : y = n := by simpa using q
          subst this
          simpa [e] using hy
        | false => rw [q] at hy; exact h y z hy
    · exact clos_sub r acc h x c
theorem clos_acc {cells : List (Str × Addr)} : ∀ (names : List (Str × NameKind)) (acc : List (Str × Addr)) (x : Str), (acc.lookup x).isSome = true → ((clos cells names acc).lookup x).isSome = true
  | [], _, _, h => h
  | (n, k) :: r, acc, x, h => by
    unfold clos
    split
    · cases e : cells.lookup n with
      | none => exact clos_acc r acc x h
      | some d =>
        refine clos_acc r _ x ?_
        rw [List.lookup_cons]
        cases q : x == n with
        | true => rfl
        | false => exact h
    · exact clos_acc r acc x h
theorem clos_has {cells : List (Str × Addr)} : ∀ (names : List (Str × NameKind)) (acc : List (Str × Addr)) (x : Str), (x, NameKind.free) ∈ names → (cells.lookup x).isSome = true → ((clos cells names acc).lookup x).isSome = true
  | (n, k) :: r, acc, x, hm, hs => by
    unfold clos
    rcases List.mem_cons.mp hm with e | hm
    · cases e
      simp only [beq_self_eq_true, if_true]
      obtain ⟨c, hc⟩ := Option.isSome_iff_exists.mp hs
      rw [hc]
      refine clos_acc r _ _ ?_
      simp [List.lookup_cons]
    · split
      · cases e : cells.lookup n with
        | none => exact clos_has r acc x hm hs
        | some d => exact clos_has r _ x hm hs
      · exact clos_has r acc x hm hs
theorem closure_eq {scope : Scope} {env : Env} (h : ∀ x, (x, NameKind.free) ∈ scope.names → (env.cells.lookup x).isSome = true) : closureFor scope env = pure (clos env.cells scope.names []) := by
  have gen : ∀ (names : List (Str × NameKind)) (acc : List (Str × Addr)), (∀ x, (x, NameKind.free) ∈ names → (env.cells.lookup x).isSome = true) →
      (forIn names acc (fun (p : Str × NameKind) (r : List (Str × Addr)) => (if p.2 == NameKind.free then (do let c ← cellOf env p.1; pure (ForInStep.yield ((p.1, c) :: r))) else pure (ForInStep.yield r) : Sem (ForInStep (List (Str × Addr)))))) = pure (clos env.cells names acc) := by
    intro names
    induction names with
    | nil => intro acc _; rfl
    | cons p r ih =>
      obtain ⟨n, k⟩ := p
      intro acc hh
      rw [List.forIn_cons]
      unfold clos
      cases hk : k == NameKind.free with
      | false =>
        simp only [hk, Bool.false_eq_true, if_false]
        exact ih acc fun x hx => hh x (List.mem_cons_of_mem _ hx)
      | true =>
        have hk' : k = .free := by simpa using hk
        subst hk'
        obtain ⟨c, hc⟩ := Option.isSome_iff_exists.mp (hh n List.mem_cons_self)
        have e : cellOf env n = pure c := by unfold cellOf; rw [hc]
        simp only [beq_self_eq_true, if_true, e, hc]
        exact ih _ fun x hx => hh x (List.mem_cons_of_mem _ hx)
  exact (congrArg (fun (m : Sem (List (Str × Addr))) => m >>= fun cs => pure cs) (gen scope.names [] h)).trans rfl

/-! ### the block -/
/-- the names' values as the block begins: nt targets, then the captured names (cs: their slots outside) -/
def lcS (nt : Nat) (cs : List Nat) (σ : St) : St := List.replicate nt none ++ cs.map fun i => (σ[i]?).getD none
def lcCx (X : Cx) (N' : List Str) (scope : Scope) (s : Shared) (H : Hp) (C : Addr) (fp : List Addr) : Cx :=
  { X with N := N', s₀ := s, H₀ := H, env := compEnvC scope (clos X.env.cells scope.names []) C X.env, outer := X.stack, stack := X.stack, ex := fp, fn := fun _ => false, pn := [], xe := fun _ _ => False }
/-- what is looked up once: Nx, sc the names and the scope outside -/
def lcOk (Nx : List Str) (sc scope : Scope) (N' : List Str) (nt : Nat) (cs : List Nat) : Bool :=
  decide (scope.kind = .function) && (scope.names.all fun p => match p.2 with
    | .cell => false
    | .local => decide (scope.names.lookup p.1 = some .local)
    | .free => decide (sc.names.lookup p.1 = some .cell) || decide (sc.names.lookup p.1 = some .free)
    | _ => true) && decide (N'.length = nt + cs.length) && (((N'.drop nt).zip cs).all fun p => decide (Nx[p.2]? = some p.1) && decide (scope.names.lookup p.1 = some .free) && (decide (sc.names.lookup p.1 = some .cell) || decide (sc.names.lookup p.1 = some .free)))
structure LcOk (X : Cx) (scope : Scope) (N' : List Str) (nt : Nat) (cs : List Nat) : Prop where
  kind : scope.kind = .function
  nocell : ∀ y ∈ scope.names, y.2 ≠ .cell
  loc : ∀ y ∈ scope.names, y.2 = .local → scope.names.lookup y.1 = some .local
  fr : ∀ x, (x, NameKind.free) ∈ scope.names → X.env.kindOf x = some .cell ∨ X.env.kindOf x = some .free
  len : N'.length = nt + cs.length
  cap : ∀ j i, cs[j]? = some i → ∃ x, N'[nt + j]? = some x ∧ X.N[i]? = some x ∧ scope.names.lookup x = some .free ∧ Vis X.env.scope x ∧ X.env.kindOf x ≠ some .local
theorem LcOk.of {X : Cx} {scope : Scope} {N' : List Str} {nt : Nat} {cs : List Nat} {Nx : List Str} {sc : Scope} (hN : X.N = Nx) (hs : X.env.scope = sc) (h : lcOk Nx sc scope N' nt cs = true) : LcOk X scope N' nt cs := by
  subst hN hs
  unfold lcOk at h
  simp only [Bool.and_eq_true, decide_eq_true_eq, List.all_eq_true] at h
  obtain ⟨⟨⟨h1, h2⟩, h3⟩, h4⟩ := h
  refine ⟨h1, fun y hy e => ?_, fun y hy e => ?_, fun x hx => ?_, h3, fun j i e => ?_⟩
  · have := h2 y hy; rw [e] at this; exact Bool.false_ne_true this
  · have := h2 y hy; rw [e] at this; exact of_decide_eq_true this
  · have := h2 _ hx
    simp only [Bool.or_eq_true, decide_eq_true_eq] at this
    exact this
  · have hj : j < cs.length := (List.getElem?_eq_some_iff.mp e).1
    have hd : (N'.drop nt).length = cs.length := by rw [List.length_drop, h3]; omega
    have hx : (N'.drop nt)[j]? = some ((N'.drop nt)[j]'(by omega)) := by simp [hd, hj]
    generalize (N'.drop nt)[j]'(by omega) = x at hx
    have hz : (x, i) ∈ (N'.drop nt).zip cs := by
      refine List.mem_of_getElem? (i := j) ?_
      rw [List.getElem?_zip_eq_some]
      exact ⟨hx, e⟩
    have q := h4 _ hz
    simp only [Bool.and_eq_true, Bool.or_eq_true, decide_eq_true_eq] at q
    refine ⟨x, by rw [List.getElem?_drop] at hx; exact hx, q.1.1, q.1.2, ?_, fun z => ?_⟩
    · exact q.2.elim (fun z => .inr (.inl z)) fun z => .inr (.inr z)
    · have z' : X.env.scope.names.lookup x = some .local := z
      rcases q.2 with y | y <;> · rw [z'] at y; cases y
theorem relabel_free {env : Env} : ∀ {names : List (Str × NameKind)} {x : Str}, names.lookup x = some .free →
    (names.map fun (n, k) => if (k == NameKind.free && env.scope.kind == .function && env.kindOf n == some .cell) then (n, NameKind.cell) else (n, k)).lookup x = some .cell ∨
    (names.map fun (n, k) => if (k == NameKind.free && env.scope.kind == .function && env.kindOf n == some .cell) then (n, NameKind.cell) else (n, k)).lookup x = some .free
  | [], _, h => by simp at h
  | (n, k) :: r, x, h => by
    have ih := @relabel_free env r x
    show List.lookup x ((if (k == NameKind.free && env.scope.kind == .function && env.kindOf n == some .cell) = true then (n, NameKind.cell) else (n, k)) :: _) = _ ∨ List.lookup x ((if (k == NameKind.free && env.scope.kind == .function && env.kindOf n == some .cell) = true then (n, NameKind.cell) else (n, k)) :: _) = _
    cases hx : x == n with
    | true =>
      simp only [List.lookup_cons, hx] at h
      cases h
      by_cases hc : (NameKind.free == NameKind.free && env.scope.kind == .function && env.kindOf n == some .cell) = true
      · rw [if_pos hc]; left; simp only [List.lookup_cons, hx]
      · rw [if_neg hc]; right; simp only [List.lookup_cons, hx]
    | false =>
      simp only [List.lookup_cons, hx] at h
      by_cases hc : (k == NameKind.free && env.scope.kind == .function && env.kindOf n == some .cell) = true
      · rw [if_pos hc]; simp only [List.lookup_cons, hx]; exact ih h
      · rw [if_neg hc]; simp only [List.lookup_cons, hx]; exact ih h
theorem relabel_back {env : Env} : ∀ {names : List (Str × NameKind)} {x : Str} {q : NameKind}, (∀ y ∈ names, y.2 ≠ .cell) → (q = .cell ∨ q = .free) →
    (names.map fun (n, k) => if (k == NameKind.free && env.scope.kind == .function && env.kindOf n == some .cell) then (n, NameKind.cell) else (n, k)).lookup x = some q → (x, NameKind.free) ∈ names
  | [], _, _, _, _, h => by simp at h
  | (n, k) :: r, x, q, hn, hq, h => by
    have ih := @relabel_back env r x q (fun y hy => hn y (List.mem_cons_of_mem _ hy)) hq
    have h' : List.lookup x ((if (k == NameKind.free && env.scope.kind == .function && env.kindOf n == some .cell) = true then (n, NameKind.cell) else (n, k)) :: (r.map fun (n, k) => if (k == NameKind.free && env.scope.kind == .function && env.kindOf n == some .cell) then (n, NameKind.cell) else (n, k))) = some q := h
    cases hx : x == n with
    | true =>
      have e : x = n := by simpa using hx
      subst e
      by_cases hc : (k == NameKind.free && env.scope.kind == .function && env.kindOf x == some .cell) = true
      · simp only [Bool.and_eq_true, beq_iff_eq] at hc
        rw [hc.1.1]; exact List.mem_cons_self
      · rw [if_neg hc] at h'
        simp only [List.lookup_cons, beq_self_eq_true] at h'
        cases h'
        rcases hq with rfl | rfl
        · exact absurd rfl (hn (x, .cell) List.mem_cons_self)
        · exact List.mem_cons_self
    | false =>
      refine List.mem_cons_of_mem _ (ih ?_)
      by_cases hc : (k == NameKind.free && env.scope.kind == .function && env.kindOf n == some .cell) = true
      · rw [if_pos hc] at h'; simp only [List.lookup_cons, hx] at h'; exact h'
      · rw [if_neg hc] at h'; simp only [List.lookup_cons, hx] at h'; exact h'

section
variable {X : Cx} {pins : List (Addr × Obj)} {σ : St} {H : Hp} {s s' : Shared} {scope : Scope} {N' : List Str} {nt : Nat} {cs : List Nat} {C : Addr} {fp : List Addr} {h' : Heap} {t' : Nat}
/-- into the block: C the block's new namespace -/
theorem lc_enter (I : Inv X pins σ H s) (L : LcOk X scope N' nt cs) (hf : ∀ b ∈ fp, FpOk X pins H b) (hC : s.heap.objs.size ≤ C) (k : ∀ b u, s.heap.get? b = some u → h'.get? b = some u) (hns : h'.Ns C fun _ => none) (fpo : ∀ b ∈ fp, b < s.heap.objs.size) :
    Inv (lcCx X N' scope s H C fp) [] (lcS nt cs σ) H { s with heap := h', toks := t' } := by
  have hfree : H C = none := I.hok.fresh hC
  have csub : ∀ x c, (clos X.env.cells scope.names []).lookup x = some c → X.env.cells.lookup x = some c := clos_sub _ _ fun x c h => by simp at h
  have chas : ∀ x, (x, NameKind.free) ∈ scope.names → ((clos X.env.cells scope.names []).lookup x).isSome = true := fun x hx => by
    refine clos_has _ _ x hx ?_
    obtain ⟨c, e⟩ := I.ok.has x (L.fr x hx)
    rw [e]; rfl
  have I4 : Inv X pins σ H { s with heap := h', toks := t' } := I.kept k
  refine ⟨⟨I.ok.mod, L.kind, I.ok.glob, I.ok.blt, hC, fun x y c h1 h2 => I.ok.inj x y c (csub x c h1) (csub y c h2), fun x hx => ?_, fun x c hx => (nomatch hx), I.ok.hd, I.ok.frames, .inl rfl, fun b hb => ⟨?_, fun x c e => ?_⟩, I.bs, Nat.le_trans I.ok.bsz I.sz, fun b o e hb => ?_, fun b hb => ?_, I.stack, I.stkFree⟩,
    rfl, I.bare, Un.kept k, ⟨_, hns, fun i x v e1 e2 e3 => ?_⟩, fun x c e => ?_, hfree, fun x c e => I.freeC x c (csub x c e), fun p hp => absurd (show p ∈ ([] : List (Addr × Obj)) from hp) (by simp), I4.hok, ?_⟩
  · have hx' : (x, NameKind.free) ∈ scope.names := by
      rcases hx with hx | hx
      · exact relabel_back (env := X.env) L.nocell (.inl rfl) hx
      · exact relabel_back (env := X.env) L.nocell (.inr rfl) hx
    exact Option.isSome_iff_exists.mp (chas x hx')
  · exact Nat.ne_of_lt (Nat.lt_of_lt_of_le (fpo b hb) hC)
  · exact (hf b hb).2.2.2.2.1 x c (csub x c e)
  · obtain ⟨f0, f1, f2, f3, _⟩ := hf b hb
    rcases f3 with z | z
    · exact I.ok.noex b o e z
    · exact absurd (Nat.lt_of_lt_of_le (Heap.lt_size e) (Nat.le_trans I.ok.bsz z)) (Nat.lt_irrefl _)
  · obtain ⟨f0, f1, f2, f3, _⟩ := hf b hb
    intro z
    rcases List.mem_cons.mp (I.stkSub b z) with q | q
    · exact f1 q
    · exact f2 q
  · -- a captured name
    have e2' : (lcS nt cs σ)[i]? = some (some v) := e2
    unfold lcS at e2'
    by_cases hi : i < nt
    · rw [List.getElem?_append_left (by simpa using hi), List.getElem?_replicate] at e2'
      split at e2' <;> cases e2'
    · rw [List.getElem?_append_right (by simpa using hi), List.length_replicate, List.getElem?_map] at e2'
      cases ej : cs[i - nt]? with
      | none => rw [ej] at e2'; cases e2'
      | some j =>
        rw [ej] at e2'
        have e2'' : (σ[j]?).getD none = some v := Option.some.inj e2'
        have hσ : σ[j]? = some (some v) := by
          cases q : σ[j]? with
          | none => rw [q] at e2''; cases e2''
          | some z => rw [q] at e2''; exact congrArg some e2''
        obtain ⟨y, y1, y2, y3, y4, y5⟩ := L.cap _ _ ej
        have hxy : x = y := by
          have e1' : N'[i]? = some x := e1
          rw [show nt + (i - nt) = i by omega, e1'] at y1
          exact Option.some.inj y1
        subst hxy
        obtain ⟨m, hn, hl⟩ := I4.loc
        obtain ⟨u, r, l⟩ := hl j x v y2 hσ y4
        refine ⟨u, r, .inr ⟨relabel_free (env := X.env) y3, ?_⟩⟩
        rcases l with ⟨l, _⟩ | ⟨_, c, hc, hcell⟩
        · exact absurd l y5
        · refine ⟨c, ?_, hcell⟩
          obtain ⟨d, hd⟩ := Option.isSome_iff_exists.mp (chas x (PySem.mem_of_lookup y3))
          have := csub x d hd
          rw [hc] at this
          cases this
          exact hd
  · exact I4.cell x c (csub x c e)
  · show (lcS nt cs σ).length = N'.length
    unfold lcS
    rw [L.len]; simp
/-- out of the block -/
theorem lc_leave {σ2 : St} {H2 : Hp} (I : Inv X pins σ H s) (hf : ∀ b ∈ fp, FpOk X pins H b) (J : Inv (lcCx X N' scope s H C fp) [] σ2 H2 s') : Inv X pins σ H2 s' :=
  I.call' (ch := fp) J.os J.base J.hok J.bare fun b hb => by
    obtain ⟨f0, f1, f2, f3, f4, f5⟩ := hf b hb
    exact ⟨f3, f1, f4, f5⟩
end

/-! ### the tests of a clause -/
def PIfs (X : Cx) (ifs : List Expr) (t : TT) : Prop :=
  ∀ (pins : List (Addr × Obj)) (s : Shared) (σ : St) (H : Hp) (Q : Bool → Hp → Prop), Inv X pins σ H s → t σ H Q →
    wpAny (model X.prog X.w) X.A (forIn ifs true fun c r => if r = true then do let ok ← isTrue c X.env (eval c X.env); pure (ForInStep.yield ok) else pure (ForInStep.yield r)) (TP X pins σ Q) X.xe s
def tTrue : TT := fun _ H Q => Q true H
theorem pifs_nil {X : Cx} : PIfs X [] tTrue := fun _ _ _ H _ I h => wpAny_tests_nil ⟨H, I, h⟩
theorem pifs_one {X : Cx} {c : Expr} {t : TT} (h : PT X c t) : PIfs X [c] t := fun pins s σ H Q I hq => wpAny_tests_one (h pins s σ H Q I hq)

/-- [elt for target in iter if ..]: nt targets, cs the captured slots -/
def LCG (nt : Nat) (cs : List Nat) (g : TG) (tt : TT) (te : TE) (σ : St) (Q : VK) (J : It) (H1 : Hp) : Prop := ∀ l, H1 l = none → ∃ W : Nat → Nat → Hp → Prop, (∃ m, W 0 m (upd H1 l (.lst []))) ∧ ∀ i m H2, W i m H2 →
  (J.stop i H2 ∧ Q (.ref l) H2) ∨ (J.go i H2 ∧ ∃ N : Hp → Prop, (∀ H', N H' → ∃ m', m' < m ∧ W (i + 1) m' H') ∧ ∀ x H3, J.yld i H2 x H3 → g x (lcS nt cs σ) H3 fun σ2 H4 =>
    (σ2.length = nt + cs.length ∧ σ2.drop nt = (lcS nt cs σ).drop nt) ∧ tt σ2 H4 fun b H5 => if b = true then te σ2 H5 fun y H6 => ∃ xs, H6 l = some (.lst xs) ∧ xs.length < sizeLine ∧ N (upd H6 l (.lst (xs ++ [y]))) else N H5)
def tLC (nt : Nat) (cs : List Nat) (wi : TI) (g : TG) (tt : TT) (te : TE) : TE := fun σ H Q => wi σ H fun J H1 => LCG nt cs g tt te σ Q J H1

theorem lc_turn {prog : Program} {w : World} {A : Around} {R : Result → Shared → Prop} {s : Shared} {elt target iter : Expr} {ifs : List Expr} {scope : Scope} {pos : Pos} {it acc : Value} {env : Env} (I : Nat → Shared → Prop)
    (turn : ∀ n s, I n s → wpAny (model prog w) A (pyNext it) (fun r s₁ => match r with
      | none => R (.ok .next) s₁
      | some v => wpAny (model prog w) A (letOwnedTupleGo target it v) (fun _ s₁' => wpAny (model prog w) A (assign target env v) (fun _ s₂ =>
          wpAny (model prog w) A (forIn ifs true fun c r => if r = true then do let ok ← isTrue c env (eval c env); pure (ForInStep.yield ok) else pure (ForInStep.yield r)) (fun ok s₃ =>
            if ok = true then wpAny (model prog w) A (eval elt env) (fun x s₄ =>
              wpAny (model prog w) A (call (.builtin "list.append") [acc, x]) (fun _ s₅ => ∃ m, m < n ∧ I m s₅) (fun _ _ => False) s₄) (fun _ _ => False) s₃
            else ∃ m, m < n ∧ I m s₃) (fun _ _ => False) s₂) (fun _ _ => False) s₁') (fun _ _ => False) s₁) (fun _ _ => False) s)
    (n : Nat) (h : I n s) : codeAny (model prog w) A (.compLoop (.ListComp elt [⟨target, iter, ifs, 0⟩] scope pos) 0 it acc env) R s := by
  refine codeAny_loop rfl I (fun n s hI => ?_) n h
  show wpAny _ A ((compTurn (.ListComp elt [⟨target, iter, ifs, 0⟩] scope pos) 0 it acc env).onRaise (fun x => do noteFrame x env; theTreesLotGoes x)) _ _ s
  refine wpAny_noted ?_
  rw [compTurn_list]
  refine wpAny_bind (wpAny_standAt (wpAny_bind (wpAny_mono (turn n s hI) (fun r s₁ h₁ => ?_) fun _ _ h' => h'.elim)))
  cases r with
  | none => exact wpAny_pure h₁
  | some v =>
    refine wpAny_bind (wpAny_mono h₁ (fun _ s₁' h₁' => ?_) fun _ _ h' => h'.elim)
    refine wpAny_bind (wpAny_mono h₁' (fun _ s₂ h₂ => wpAny_bind (wpAny_mono h₂ (fun ok s₃ h₃ => ?_) fun _ _ h' => h'.elim)) fun _ _ h' => h'.elim)
    cases ok with
    | false => exact wpAny_pure ⟨rfl, h₃⟩
    | true =>
      exact wpAny_bind (wpAny_bind (wpAny_mono h₃ (fun x s₄ h₄ => wpAny_bind (wpAny_mono h₄ (fun _ s₅ h₅ => wpAny_pure (wpAny_pure ⟨rfl, h₅⟩)) fun _ _ h' => h'.elim)) fun _ _ h' => h'.elim))

section
variable {X : Cx} {elt target iter : Expr} {ifs : List Expr} {scope : Scope} {pos : Pos} {N' : List Str} {nt : Nat} {cs : List Nat} {wi : TI} {g : TG} {tt : TT} {te : TE}
theorem lc_core {use : Option (Value → Sem Unit)} {QQ : Value → Shared → Prop} {p2 : Pos} (hc : X.calm = true) (L : LcOk X scope N' nt cs) (hi : PI X target iter wi)
    (hg : ∀ s H C fp, PG (lcCx X N' scope s H C fp) target g) (ht : ∀ s H C fp, PIfs (lcCx X N' scope s H C fp) ifs tt) (he : ∀ s H C fp, PE (lcCx X N' scope s H C fp) elt te)
    {pins : List (Addr × Obj)} {s : Shared} {σ : St} {H : Hp} {Q : VK} (I : Inv X pins σ H s) (h : tLC nt cs wi g tt te σ H Q)
    (fin : ∀ (l : Addr) (H' : Hp) (s' : Shared) (C : Addr), Inv X pins σ H' s' → FpOk X pins H' C → (∃ m, s'.heap.Ns C m) → Q (.ref l) H' → compPost (model X.prog X.w) X.A X.xe use QQ (.ref l) C (.ok .next) s')
    (hs : ∀ x, foldedSetIterable iter X.env x = pure x := by intro _; rfl) :
    wpAny (model X.prog X.w) X.A (comprehension (.ListComp elt [⟨target, iter, ifs, 0⟩] scope pos) scope X.env p2 (newList []) false (eval iter X.env) use) QQ X.xe s := by
  have hcl : closureFor scope X.env = pure (clos X.env.cells scope.names []) := closure_eq fun x hx => by
    obtain ⟨c, e⟩ := I.ok.has x (L.fr x hx)
    rw [e]; rfl
  refine wpAny_comprehension_free (env := X.env) rfl hs hcl L.kind L.loc (thn (hi pins s σ H _ I h) fun v s1 h1 => thn h1 fun itv s2 h2 => ?_)
  obtain ⟨it, fp, tn, J, H1, e, I2, T, st2, f2, R⟩ := h2
  subst e
  refine wpAny_newObj_type ?_
  have hv : Vals [] ([] : List Value) := .nil
  have I3 := I2.lnew (t' := s2.toks) hv (Nat.zero_le _)
  have hfr : H1 s2.heap.objs.size = none := I2.fresh
  have ne3 : ∀ b ∈ fp, b ≠ s2.heap.objs.size := fun b hb z => by
    obtain ⟨o, e, _⟩ := T.obj _ _ st2 b hb
    have := Heap.lt_size e
    rw [z] at this
    exact Nat.lt_irrefl _ this
  have f3 : ∀ b ∈ fp, FpOk X pins (upd H1 s2.heap.objs.size (.lst [])) b := fun b hb => ⟨by rw [upd_ne (ne3 b hb)]; exact (f2 b hb).1, (f2 b hb).2⟩
  obtain ⟨W, ⟨m0, w0⟩, turn⟩ := R _ hfr
  refine wpAny_newFunctionEnv L.nocell (by intro y hy; simp at hy) (fun h4 hns hsb => ?_) L.kind
  dsimp only at hns hsb ⊢
  generalize hH3 : s2.heap.push { cls := .type "list", dict := none, data := .seq ([] : List Value).toArray } = h3 at hns hsb I3 ⊢
  have hsz3 : h3.objs.size = s2.heap.objs.size + 1 := by rw [← hH3, Heap.size_push]
  have up4 : ∀ b u, h3.get? b = some u → h4.get? b = some u := fun b u e => hsb.extBut b u (Nat.ne_of_lt (Heap.lt_size e)) (Heap.get?_push_of_some _ e)
  have fpo : ∀ b ∈ fp, b < h3.objs.size := fun b hb => by
    obtain ⟨o, e, _⟩ := T.obj _ _ st2 b hb
    exact Nat.lt_of_lt_of_le (Heap.lt_size e) (by rw [hsz3]; exact Nat.le_succ _)
  have up3 : ∀ b u, s2.heap.get? b = some u → h3.get? b = some u := fun b u e => hH3 ▸ Heap.get?_push_of_some _ e
  have J4 : Inv (lcCx X N' scope { s2 with heap := h3 } (upd H1 s2.heap.objs.size (.lst [])) h3.objs.size fp) [] (lcS nt cs σ) (upd H1 s2.heap.objs.size (.lst [])) { s2 with heap := h4, toks := s2.toks + ([] : List (Str × Value)).length } :=
    lc_enter (t' := s2.toks + ([] : List (Str × Value)).length) I3 L f3 (Nat.le_refl _) up4 (by simpa using hns) fpo
  have st4 : tn 0 h4 := T.keep _ _ _ st2 fun b hb o e => up4 b o (up3 b o e)
  generalize hs3 : ({ s2 with heap := h3 } : Shared) = s3 at I3 J4
  generalize hX' : lcCx X N' scope s3 (upd H1 s2.heap.objs.size (.lst [])) h3.objs.size fp = X' at J4
  have hg' : PG X' target g := hX' ▸ hg _ _ _ _
  have ht' : PIfs X' ifs tt := hX' ▸ ht _ _ _ _
  have he' : PE X' elt te := hX' ▸ he _ _ _ _
  have stat : ∀ {H' : Hp}, (∀ b ∈ fp, H' b = none) → ∀ b ∈ fp, FpOk X' [] H' b := fun hn b hb => by
    subst hX'
    refine ⟨hn b hb, Nat.ne_of_lt (fpo b hb), J4.ok.exfs b hb, .inl hb, (J4.ok.exf b hb).2, fun p hp => absurd (show p ∈ ([] : List (Addr × Obj)) from hp) (by simp)⟩
  have loop : codeAny (model X.prog X.w) X.A (.compLoop (.ListComp elt [⟨target, iter, ifs, 0⟩] scope pos) 0 (.ref it) (.ref s2.heap.objs.size) (compEnvC scope (clos X.env.cells scope.names []) h3.objs.size X.env))
      (compPost (model X.prog X.w) X.A X.xe use QQ (.ref s2.heap.objs.size) h3.objs.size) { s2 with heap := h4, toks := s2.toks + ([] : List (Str × Value)).length } := by
    have eA : X'.A = X.A := by subst hX'; rfl
    have eP : X'.prog = X.prog := by subst hX'; rfl
    have eW : X'.w = X.w := by subst hX'; rfl
    have eK : X'.K = X.K := by subst hX'; rfl
    have eC : X'.calm = true := by subst hX'; exact hc
    have eE : X'.env = compEnvC scope (clos X.env.cells scope.names []) h3.objs.size X.env := by subst hX'; rfl
    have eX : X'.xe = fun _ _ => False := by subst hX'; rfl
    refine lc_turn (fun n s' => ∃ i H', Inv X' [] (lcS nt cs σ) H' s' ∧ tn i s'.heap ∧ (∀ b ∈ fp, H' b = none) ∧ W i n H') ?_ m0 ⟨0, _, J4, st4, fun b hb => (f3 b hb).1, w0⟩
    rintro n s5 ⟨i, H5, J5, st5, fr5, w5⟩
    rcases turn i n H5 w5 with ⟨stop, qn⟩ | ⟨go, N, hN, step⟩
    · have d := T.done X' eP eW eK eC i [] s5 (lcS nt cs σ) H5 (fun _ _ => False) J5 (stat fr5) st5 stop
      rw [eA] at d
      refine thn d fun r s6 ⟨hr, J6⟩ => ?_
      subst hr
      have I6 : Inv X pins σ H5 s6 := by subst hX'; subst hs3; exact lc_leave I3 f3 J6
      refine fin _ H5 s6 h3.objs.size I6 ?_ ?_ qn
      · have hn : H5 h3.objs.size = none := by subst hX'; exact J6.free
        subst hs3
        exact I3.fpOk (Nat.le_refl _) hn
      · obtain ⟨m, hm, _⟩ := J6.loc
        subst hX'
        exact ⟨m, hm⟩
    · have d := T.item X' eP eW eK eC i [] s5 (lcS nt cs σ) H5 (fun _ _ => False) J5 (stat fr5) st5 go
      rw [eA] at d
      refine thn d fun r s6 ⟨u, hr, h6⟩ => ?_
      subst hr
      refine thn h6 fun _ s7 ⟨x, H7, J7, r7, y7, st7, fr7⟩ => ?_
      have J7' := J7.pinned (stat fr7) (T.obj _ _ st7)
      have a := hg' _ s7 (lcS nt cs σ) H7 x u _ J7' r7 (step x H7 y7)
      rw [eA, eP, eW, eE, eX] at a
      refine thn a fun _ s8 ⟨σ8, H8, J8, ⟨e8, d8⟩, q8⟩ => ?_
      have b := ht' _ s8 σ8 H8 _ J8 q8
      rw [eA, eP, eW, eE, eX] at b
      have again : ∀ {s9 : Shared} {H9 : Hp}, Inv X' ([] ++ pinsAt fp s7.heap) σ8 H9 s9 → N H9 → ∃ m, m < n ∧ ∃ i H', Inv X' [] (lcS nt cs σ) H' s9 ∧ tn i s9.heap ∧ (∀ b ∈ fp, H' b = none) ∧ W i m H' := fun {s9 H9} J9 n9 => by
        obtain ⟨m', hm, w9⟩ := hN H9 n9
        refine ⟨m', hm, i + 1, H9, ?_, T.keep _ _ _ st7 fun b hb o e => (J9.pin (b, o) (List.mem_append_right _ (List.mem_append_right _ (mem_pinsAt hb e)))).1, fun b hb => ?_, w9⟩
        · refine J9.unpinned.weak ?_ fun j v ej => ?_
          · rw [e8]; unfold lcS; simp
          · by_cases hj : j < nt
            · unfold lcS at ej
              rw [List.getElem?_append_left (by simpa using hj), List.getElem?_replicate] at ej
              split at ej <;> cases ej
            · have z := congrArg (fun l : St => l[j - nt]?) d8
              simp only [List.getElem?_drop] at z
              rw [show nt + (j - nt) = j by omega] at z
              rw [z]; exact ej
        · obtain ⟨o, e, _⟩ := T.obj _ _ st7 b hb
          exact (J9.pin (b, o) (List.mem_append_right _ (List.mem_append_right _ (mem_pinsAt hb e)))).2.1
      refine thn b fun ok s9 ⟨H9, J9, q9⟩ => ?_
      cases ok with
      | false =>
        rw [if_neg Bool.false_ne_true] at q9 ⊢
        exact again J9 q9
      | true =>
        rw [if_pos rfl] at q9 ⊢
        have c := he' _ s9 σ8 H9 _ J9 q9
        rw [eA, eP, eW, eE, eX] at c
        refine thn c fun y sA ⟨vy, HA, JA, ry, xs, hl, hz, nA⟩ => ?_
        have ap := mt_append (X := X') _ sA σ8 HA (.ref s2.heap.objs.size) [vy] (.ref s2.heap.objs.size) [y] (fun _ H' => N H') JA rfl (.cons ry .nil) ⟨_, xs, vy, rfl, rfl, hl, hz, nA⟩
        rw [eA, eP, eW, eX] at ap
        exact thn ap fun _ sB ⟨_, HB, JB, _, nB⟩ => again JB nB
  exact codeAny_compStart_list loop (T.self X.A 0 _ _ _ st4 loop)

/-- [elt for ..] as an expression -/
theorem pe_lc (hc : X.calm = true) (L : LcOk X scope N' nt cs) (hi : PI X target iter wi)
    (hg : ∀ s H C fp, PG (lcCx X N' scope s H C fp) target g) (ht : ∀ s H C fp, PIfs (lcCx X N' scope s H C fp) ifs tt) (he : ∀ s H C fp, PE (lcCx X N' scope s H C fp) elt te)
    (hs : ∀ x, foldedSetIterable iter X.env x = pure x := by intro _; rfl) : PE X (.ListComp elt [⟨target, iter, ifs, 0⟩] scope pos) (tLC nt cs wi g tt te) := by
  intro pins s σ H Q I h
  rw [eval_ListComp]
  refine lc_core (use := none) hc L hi hg ht he I h (fun l H' s' C I' f ⟨m, hm⟩ q => ⟨m, hm, fun h' hs' => ?_⟩) hs
  obtain ⟨f0, f1, f2, f3, f4, f5⟩ := f
  exact ⟨.ref l, H', I'.turned (t' := s'.toks) (fun b o hb e => hs'.extBut b o hb e) f0 f1 f3 f4 f5, rfl, q⟩
/-- name = [elt for ..], the name a plain local on the same row -/
theorem ps_setLC {i : Nat} {y : Str} {py spos : Pos} (hN : X.N.Nodup) (hy : X.N[i]? = some y) (hx : Loc X.env.scope y) (hc : X.calm = true) (L : LcOk X scope N' nt cs) (hi : PI X target iter wi)
    (hg : ∀ s H C fp, PG (lcCx X N' scope s H C fp) target g) (ht : ∀ s H C fp, PIfs (lcCx X N' scope s H C fp) ifs tt) (he : ∀ s H C fp, PE (lcCx X N' scope s H C fp) elt te)
    (hsw : swapsWith (.ListComp elt [⟨target, iter, ifs, 0⟩] scope pos) (some (.Name y py)) spos.line X.env = pure true := by rfl)
    (hs : ∀ x, foldedSetIterable iter X.env x = pure x := by intro _; rfl) (hf : X.fn y = true ∨ X.env.scope.names.lookup y = some .local := by first | exact .inl rfl | exact .inr rfl | assumption) :
    PS X (.Assign [.Name y py] (.ListComp elt [⟨target, iter, ifs, 0⟩] scope pos) spos) (tAsg (tLC nt cs wi g tt te) (gName i)) := by
  intro pins s σ H D I h
  rw [exec_Assign_Name_used _ _ _ _ hsw]
  refine wpAny_bind (wpAny_standAt (wpAny_bind ?_))
  show wpAny _ X.A (do let _ ← comprehension (.ListComp elt [⟨target, iter, ifs, 0⟩] scope pos) scope X.env _ (newList []) false (eval iter X.env) (some (assign (.Name y py) X.env))) _ _ s
  refine wpAny_bind (thn (lc_core (QQ := fun _ s' => SP X pins D .next s') (use := some (assign (.Name y py) X.env)) hc L hi hg ht he I h (fun l H' s' C I' f hm q => ?_) hs) (fun _ s' hq => wpAny_pure (wpAny_pure hq)))
  show wpAny _ X.A (assign (.Name y py) X.env (.ref l)) _ _ _
  refine wpAny_assign_Name (store_ok2 I' hN hy hx (v := .ref l) rfl (fun s2 I2 ⟨a, hsb, ha⟩ => ?_) hf)
  obtain ⟨m, hm⟩ := hm
  obtain ⟨f0, f1, f2, f3, f4, f5⟩ := f
  have hCa : C ≠ a := by
    rcases ha with rfl | ha
    · exact f1
    · exact fun z => f4 y a ha z.symm
  refine ⟨m, hm.sameBut hsb hCa, fun h' hs' => ?_⟩
  exact ⟨_, H', I2.turned (t' := s2.toks) (fun b o hb e => hs'.extBut b o hb e) f0 f1 f3 f4 f5, q⟩
end
end L2

set_option Elab.async false
set_option linter.all false
set_option maxRecDepth 100000
set_option maxHeartbeats 4000000
/-! MY OWN ADDITIONS to the hand layer: isinstance, is, not -/
namespace L2
open PySem PySem.Spec PyProof.Rows
section
variable {X : Cx} {a b : Expr} {ta tb : TE} {pos : Pos}
theorem call_isi_int_int : CallR X (.builtin "isinstance") (fun xs H Q => ∃ x, xs = [.int x, .ty "int"] ∧ Q (.bl true) H) := by
  intro pins s σ H xs us Q I r h
  obtain ⟨x, rfl, q⟩ := h
  obtain ⟨u, v, rfl, ⟨t, rfl⟩, rfl⟩ := vals2 r
  exact IsiPair.int_int ⟨.bl true, H, I, rfl, q⟩
theorem call_isi_int_bool : CallR X (.builtin "isinstance") (fun xs H Q => ∃ x, xs = [.int x, .ty "bool"] ∧ Q (.bl false) H) := by
  intro pins s σ H xs us Q I r h
  obtain ⟨x, rfl, q⟩ := h
  obtain ⟨u, v, rfl, ⟨t, rfl⟩, rfl⟩ := vals2 r
  exact IsiPair.int_bool ⟨.bl false, H, I.tok _, rfl, q⟩
theorem call_isi_list_list : CallR X (.builtin "isinstance") (fun xs H Q => ∃ p ys, xs = [.ref p, .ty "list"] ∧ SqL X.K H p ys ∧ Q (.bl true) H) := by
  intro pins s σ H xs us Q I r h
  obtain ⟨p, ys, rfl, hq, q⟩ := h
  obtain ⟨u, v, rfl, rfl, rfl⟩ := vals2 r
  obtain ⟨its, _, pl, _⟩ := I.list hq
  obtain ⟨o, n, e, c, hd, _⟩ := pl
  exact IsiPair.list_list e c ⟨.bl true, H, I, rfl, q⟩
theorem call_isi_tup_tuple : CallR X (.builtin "isinstance") (fun xs H Q => ∃ p ys, xs = [.ref p, .ty "tuple"] ∧ SqT X.K H p ys ∧ Q (.bl true) H) := by
  intro pins s σ H xs us Q I r h
  obtain ⟨p, ys, rfl, hq, q⟩ := h
  obtain ⟨u, v, rfl, rfl, rfl⟩ := vals2 r
  obtain ⟨its, _, ⟨o, e, c, _⟩, _⟩ := I.tuple hq
  exact IsiPair.tuple_tuple e c ⟨.bl true, H, I, rfl, q⟩
end
end L2
namespace L2
open PySem PySem.Spec PyProof.Rows
theorem SqL.same {K : PySem.W.Frag} {H H' : Hp} {a : Addr} {xs : List V} (e : Same H H') (h : SqL K H a xs) : SqL K H' a xs := e.seq h
theorem SqT.same {K : PySem.W.Frag} {H H' : Hp} {a : Addr} {xs : List V} (e : Same H H') (h : SqT K H a xs) : SqT K H' a xs := by
  rcases h with (h | ⟨o, h⟩) | h
  · exact .inl (.inl (e _ _ h))
  · exact .inl (.inr ⟨o, e _ _ h⟩)
  · exact .inr h
theorem Same.upd {H : Hp} {l : Addr} {o : HO} (h : H l = none) : Same H (upd H l o) := fun b u e => by rw [upd_ne (ne_of_none e h)]; exact e
end L2
namespace L2
open PySem
end L2
namespace L2
open PySem
end L2
namespace L2
open PySem
end L2

set_option Elab.async false
set_option linter.all false
set_option maxRecDepth 100000
set_option maxHeartbeats 4000000
/-! MY OWN ADDITIONS to the hand layer: walks that hand out tuples (enumerate, zip) -/
namespace L2
open PySem PySem.Spec PyProof.Rows
section
variable {X : Cx} {pins : List (Addr × Obj)} {σ : St} {H : Hp} {s : Shared} {h' : Heap} {t' : Nat} {wr : List Addr}
/-- several untracked records of ours have turned -/
theorem Inv.turns (I : Inv X pins σ H s) (hf : ∀ b ∈ wr, FpOk X pins H b) (k : ∀ b o, b ∉ wr → s.heap.get? b = some o → h'.get? b = some o) : Inv X pins σ H { s with heap := h', toks := t' } := by
  have nw : ∀ b u, H b = some u → b ∉ wr := fun b u e z => by have := (hf b z).1; rw [e] at this; cases this
  have nL : X.env.locals ∉ wr := fun z => (hf _ z).2.1 rfl
  refine I.step (g' := s.gens) (d' := s.drawn) (ch := wr) (fun b hb => ?_) (fun b o _ _ hc e _ => k b o hc e) (fun b o _ _ hc e _ => ⟨o.slots, k b o hc e⟩) (fun _ _ _ _ n => n)
    (fun b o hc e => ⟨o, k b o hc e⟩) (fun _ _ e => e) (fun _ _ _ e => e) (fun b ps e => ⟨#[], by rw [e]; simp⟩) (fun m hm => ?_) (fun b u e => ?_) I.bare
  · obtain ⟨f0, f1, f2, f3, f4, f5⟩ := hf b hb
    exact ⟨f3, f1, f4, f5⟩
  · obtain ⟨o, es, ep, ho, r⟩ := hm
    exact ⟨o, es, ep, k _ o nL ho, r⟩
  · refine (I.hok b u e).stay (fun c v hc q => k c v ?_ q) (fun _ q => q) fun _ _ q => q
    rcases hc with z | z
    · rw [z]; exact nw b u e
    · exact nw c _ z
/-- .. and a new tuple has come -/
theorem Inv.turnsT (I : Inv X pins σ H s) {T0 : Addr} {vs : List V} {vals : Array Value} (hf : ∀ b ∈ wr, FpOk X pins H b) (k : ∀ b o, b ∉ wr → s.heap.get? b = some o → h'.get? b = some o) (hT : s.heap.objs.size ≤ T0) (ht : h'.IsTuple T0 vals) (hv : Vals vs vals.toList)
    (hz : vs.length ≤ sizeLine) : Inv X pins σ (upd H T0 (.tup vs)) { s with heap := h', toks := t' } := by
  have nw : ∀ b u, H b = some u → b ∉ wr := fun b u e z => by have := (hf b z).1; rw [e] at this; cases this
  have nL : X.env.locals ∉ wr := fun z => (hf _ z).2.1 rfl
  have fresh : H T0 = none := I.hok.fresh hT
  have ne : ∀ b o, s.heap.get? b = some o → b ≠ T0 := fun b o e => Nat.ne_of_lt (Nat.lt_of_lt_of_le (Heap.lt_size e) hT)
  refine I.step (g' := s.gens) (d' := s.drawn) (ch := wr) (fun b hb => ?_) (fun b o _ _ hc e _ => k b o hc e) (fun b o _ _ hc e _ => ⟨o.slots, k b o hc e⟩) (fun b o _ e n => by rw [upd_ne (ne b o e)]; exact n)
    (fun b o hc e => ⟨o, k b o hc e⟩) (fun b xs e => by rw [upd_ne (ne_of_none e fresh)]; exact e) (fun b o u e => by rw [upd_ne (ne_of_none e fresh)]; exact e) (fun b ps e => ⟨#[], by rw [upd_ne (ne_of_none e fresh), e]; simp⟩) (fun m hm => ?_) (fun b u e => ?_) I.bare
  · obtain ⟨f0, f1, f2, f3, f4, f5⟩ := hf b hb
    exact ⟨f3, f1, f4, f5⟩
  · obtain ⟨o, es, ep, ho, r⟩ := hm
    exact ⟨o, es, ep, k _ o nL ho, r⟩
  · by_cases hb : b = T0
    · subst hb
      rw [upd_same] at e
      cases e
      have ht2 : h'.IsTuple b vals.toList.toArray := by simpa using ht
      exact ⟨hz, vals.toList, hv, ht2⟩
    · rw [upd_ne hb] at e
      refine (I.hok b u e).stay (fun c v hc q => k c v ?_ q) (fun c q => by rw [upd_ne (ne_of_none q fresh)]; exact q) fun c xs q => by rw [upd_ne (ne_of_none q fresh)]; exact q
      rcases hc with z | z
      · rw [z]; exact nw b u e
      · exact nw c _ z
end
section
variable {X : Cx} {e : Expr} {ta : TA} {elts : List Expr} {kk : Nat} {tp p pos : Pos}
end
end L2

set_option Elab.async false
set_option linter.all false
set_option maxRecDepth 100000
set_option maxHeartbeats 4000000
/-! MY OWN ADDITIONS to the hand layer: ranges as values, downward ranges, the least of three -/
namespace L2
open PySem PySem.Spec PyProof.Rows
/-- a range object of any step -/
def RngO (r : Addr) (a b c : Int) : HO := .ext fun h => ∃ t u v, IsRange h r a b c t u v
section
variable {X : Cx} {pins : List (Addr × Obj)} {σ : St} {H : Hp} {s : Shared}
theorem Inv.rng {a b c : Int} {t u v : Tok} {t' : Nat} (I : Inv X pins σ H s) : Inv X pins σ (upd H s.heap.objs.size (RngO s.heap.objs.size a b c)) { s with heap := s.heap.push { cls := .type "range", data := .fields #[.int a t, .int b u, .int c v] }, toks := t' } :=
  I.laid (fun _ _ q => Heap.get?_push_of_some _ q) (Nat.le_refl _) ⟨⟨t, u, v, Heap.get?_push_size _ rfl⟩, ⟨_, Heap.get?_push_size _ rfl⟩, fun h1 h2 ⟨t1, u1, v1, z⟩ k => ⟨t1, u1, v1, k _ z⟩⟩
end
section
variable {X : Cx} {e1 e2 e3 : Expr} {ta : TA} {p pos : Pos} {tg : Expr}
/-- range(n) as a value -/
def tRng1 (ta : TA) : TE := fun σ H Q => ta σ H fun vs H1 => ∃ j : Int, vs = [.int j] ∧ ∀ r, H1 r = none → Q (.ref r) (upd H1 r (RngO r 0 j 1))
theorem pe_range1 (hg : Gl X "range") (hm : X.mg "range" = none) (ha : PA X [e1] ta) (hs : starEach [e1] X.env = [(false, eval e1 X.env)] := by rfl) : PE X (.Call (.Name "range" p) [e1] [] pos) (tRng1 ta) := by
  intro pins s σ H Q I h
  refine Call_ (ld_blt I hg hm boot_range (PyProof.Rows.callWith_type1 (thn (ha pos pins s σ H _ I h) fun us s1 ⟨vs, H1, I1, r1, q1⟩ => ?_) hs rfl))
  obtain ⟨j, rfl, q⟩ := q1
  obtain ⟨u, rfl, ru⟩ := vals1 r1
  obtain ⟨t, rfl⟩ := ru
  exact call_range_1 ⟨.ref s1.heap.objs.size, _, I1.rng, rfl, q _ I1.fresh⟩
/-- list(range ..) -/
theorem call_list_rng (hc : X.calm = true) : CallR X (.type "list") (fun xs H Q => ∃ r a b c n, xs = [.ref r] ∧ H r = some (RngO r a b c) ∧ Builtin.Range.small a b c = true ∧ Builtin.Range.rangeSize a b c = ((n : Nat) : Int) ∧ n ≤ 1048576 ∧ ∀ l, H l = none → Q (.ref l) (upd H l (.lst ((List.range n).map fun (i : Nat) => .int (a + (i : Int) * c))))) := by
  intro pins s σ H xs us Q I r h
  obtain ⟨rr, a, b, c, n, rfl, hr, hsm, hn, hle, q⟩ := h
  obtain ⟨u, rfl, ru⟩ := vals1 r
  cases ru
  obtain ⟨⟨t, u, v, hR⟩, _, _⟩ := I.hok rr _ hr
  refine call_list_range (I.ok.hd hc) hR hsm hn (Nat.le_trans hle (by decide)) fun h' tk acc k hk hl hit => ?_
  have hv : Vals ((List.range n).map fun (i : Nat) => V.int (a + (i : Int) * c)) acc.toList := by
    obtain ⟨hsz, hit⟩ := hit
    have gen : ∀ (m : Nat) (l : List Value), l.length = m → (∀ (i : Nat) v, l[i]? = some v → ∃ t, v = Value.int (a + (i : Int) * c) t) → Vals ((List.range m).map fun (i : Nat) => V.int (a + (i : Int) * c)) l := by
      intro m
      induction m with
      | zero => intro l hl _; have := List.eq_nil_of_length_eq_zero hl; subst this; exact .nil
      | succ m ih =>
        intro l hl hi
        obtain ⟨l', x, rfl⟩ : ∃ l' x, l = l' ++ [x] := by
          cases e : l.getLast? with
          | none => have := List.getLast?_eq_none_iff.mp e; subst this; cases hl
          | some x => obtain ⟨l', e'⟩ := List.getLast?_eq_some_iff.mp e; exact ⟨l', x, e'⟩
        have hl' : l'.length = m := by simpa using hl
        rw [List.range_succ, List.map_append]
        refine Vals.append (ih l' hl' fun i v hv => hi i v ?_) (.cons ?_ .nil)
        · rw [List.getElem?_append_left (List.getElem?_eq_some_iff.mp hv).1]; exact hv
        · obtain ⟨t, e⟩ := hi m x (by rw [← hl']; simp)
          exact ⟨t, e⟩
    exact gen n acc.toList (by simpa using hsz) fun i v hv => by
      have : acc[i]? = some v := by simpa using hv
      obtain ⟨t, e⟩ := hit i v this
      exact ⟨t, e⟩
  have hz : ((List.range n).map fun (i : Nat) => V.int (a + (i : Int) * c)).length ≤ sizeLine := by rw [List.length_map, List.length_range, sizeLine_eq]; omega
  exact ⟨.ref s.heap.objs.size, _, I.laid hk (Nat.le_refl _) (show ObjOk X.prog X.w _ _ _ (.lst _) from ⟨hz, acc.toList, k, hv, by simpa using hl⟩), rfl, q _ I.fresh⟩
end
end L2
namespace L2
open PySem PySem.Spec PyProof.Rows
section
variable {X : Cx}
end
end L2
namespace L2
open PySem
end L2

set_option Elab.async false
set_option linter.all false
set_option maxRecDepth 100000
set_option maxHeartbeats 4000000
/-! MY OWN ADDITIONS to the hand layer: two texts walked side by side -/
namespace L2
open PySem PySem.Spec PyProof.Rows
structure ZipAp (z TI TO i1 i2 : Addr) (fp1 fp2 : List Addr) : Prop where
  TIz : TI ≠ z
  TOz : TO ≠ z
  i1z : i1 ≠ z
  i2z : i2 ≠ z
  TITO : TI ≠ TO
  TIi1 : TI ≠ i1
  TIi2 : TI ≠ i2
  TOi1 : TO ≠ i1
  TOi2 : TO ≠ i2
  i12 : i1 ≠ i2
  m1 : i1 ∈ fp1
  m2 : i2 ∈ fp2
  f1 : ∀ b ∈ fp1, b ≠ z ∧ b ≠ TO ∧ b ≠ i2
  f2 : ∀ b ∈ fp2, b ≠ z ∧ b ≠ TO ∧ b ≠ i1
section
variable {prog : Program} {w : World} {A : Around} {E : Value → Shared → Prop} {s : Shared}
end
section
variable {prog : Program} {w : World} {A : Around} {E : Value → Shared → Prop} {s : Shared}
end
section
variable {X : Cx} {e1 e2 : Expr} {ta : TA} {elts : List Expr} {kk : Nat} {tp p pos : Pos}
end
end L2

set_option Elab.async false
set_option linter.all false
set_option maxRecDepth 100000
set_option maxHeartbeats 4000000
/-! MY OWN ADDITIONS to the hand layer: list(reversed(list)) -/
namespace L2
open PySem PySem.Spec PyProof.Rows
section
variable {prog : Program} {w : World} {A : Around} {E : Value → Shared → Prop} {s : Shared}
end
section
variable {X : Cx} {pins : List (Addr × Obj)} {σ : St} {H : Hp} {s : Shared} {h' : Heap} {t' : Nat} {wr : List Addr}
end
section
variable {X : Cx} {e1 : Expr} {ta : TA} {p pos p2 pos2 : Pos}
end
end L2

namespace L2
open PySem
end L2

set_option Elab.async false
set_option linter.all false
set_option maxRecDepth 100000
set_option maxHeartbeats 4000000
/-! MY OWN ADDITIONS to the hand layer: dicts: setdefault, get, list(d.values()), list(d) -/
namespace L2
open PySem PySem.Spec PyProof.Rows
section
variable {X : Cx}
/-- d.setdefault(k, z) -/
def rSetDef : V → List V → Hp → VK → Prop := fun x vs H Q => ∃ a kvs k z, x = .ref a ∧ vs = [kV k, z] ∧ H a = some (.dK kvs) ∧ kvs.length < sizeLine ∧ (∀ v, valV kvs k = some v → Q v H) ∧ (valV kvs k = none → Q z (upd H a (.dK (putK kvs k z))))
theorem mt_setdefault : MtR X "dict.setdefault" rSetDef := by
  intro pins s σ H x xs v us Q I rx rs h
  obtain ⟨a, kvs, k, z, rfl, rfl, e, hl, q1, q2⟩ := h
  obtain rfl : v = Value.ref a := rx
  obtain ⟨u1, u2, rfl, ry, rz⟩ := vals2 rs
  obtain ⟨hz, hd, vs, rel, dd⟩ := dk_of I.hok e
  have hzz : vs.length ≤ sizeLine := by rw [← rel.length]; exact hz
  refine call_meetsIn PySem.F.slot_dict_setdefault dd.typeIs PySem.F.entry_dict_setdefault (PySem.F.args_dict_setdefault_3 _ _ _) (kt_meets_setdefault (mixKind X.prog X.w) a (kV_is ry) hd u2) ⟨vs, dd, hzz, fun v' hv => ?_, fun hn h' dd' hs => ?_⟩
  · have r := rel.val k
    rw [hv] at r
    cases hk : valV kvs k with
    | none => rw [hk] at r; exact r.elim
    | some w' => rw [hk] at r; exact ⟨w', H, I.tok _, r, q1 w' hk⟩
  · have hk : valV kvs k = none := by
      have r := rel.val k
      rw [hn] at r
      cases hk : valV kvs k with
      | none => rfl
      | some w' => rw [hk] at r; exact r.elim
    have hl2 : (putK kvs k z).length ≤ sizeLine := by have := length_putK kvs k z; omega
    have he : ∃ q, h'.get? a = some q := let ⟨q, _, _, hq, _⟩ := dd'; ⟨q, hq⟩
    exact ⟨z, _, d_write I (by rw [e]; exact True.intro) hs he (dk_new hl2 hd (rel.put k rz) dd'), rz, q2 hk⟩
/-- d.values() -/
def ValsO (r d : Addr) : HO := .ext fun h => h.IsValuesView r d
def rValues : V → List V → Hp → VK → Prop := fun x vs H Q => ∃ d kvs, x = .ref d ∧ vs = [] ∧ H d = some (.dK kvs) ∧ ∀ r, H r = none → Q (.ref r) (upd H r (ValsO r d))
theorem mt_values : MtR X "dict.values" rValues := by
  intro pins s σ H x xs v us Q I rx rs h
  obtain ⟨d, kvs, rfl, rfl, e, q⟩ := h
  obtain rfl : v = Value.ref d := rx
  cases rs
  obtain ⟨hz, hd, vs, rel, dd⟩ := dk_of I.hok e
  refine call_meetsIn PySem.F.slot_dict_values dd.typeIs PySem.F.entry_dict_values (PySem.F.args_dict_values_1 _) (meets_dict_values (mixKind X.prog X.w) d hd) ⟨⟨vs, dd⟩, ?_⟩
  have I2 : Inv X pins σ (upd H s.heap.objs.size (ValsO s.heap.objs.size d)) { s with heap := s.heap.push { cls := .type "dict_values", data := .fields #[.ref d] } } :=
    I.laid (t' := s.toks) (fun _ _ q => Heap.get?_push_of_some _ q) (Nat.le_refl _) ⟨⟨_, Heap.get?_push_size _ rfl, rfl, rfl⟩, ⟨_, Heap.get?_push_size _ rfl⟩, fun h1 h2 ⟨o, ho, r⟩ k => ⟨o, k _ ho, r⟩⟩
  exact ⟨.ref s.heap.objs.size, _, I2, rfl, q _ I.fresh⟩
theorem KV.snds {κ : Type} [DecidableEq κ] {kvs : List (κ × V)} {vs : List (κ × Value)} (r : KV kvs vs) : Vals (kvs.map (·.2)) (vs.map (·.2)) := by
  induction r with
  | nil => exact .nil
  | cons h t ih => exact .cons h.2 ih
theorem call_list_vals (hc : X.calm = true) : CallR X (.type "list") (fun xs H Q => ∃ r d kvs, xs = [.ref r] ∧ H r = some (ValsO r d) ∧ H d = some (.dK kvs) ∧ ∀ l, H l = none → Q (.ref l) (upd H l (.lst (kvs.map (·.2))))) := by
  intro pins s σ H xs us Q I rs h
  obtain ⟨r, d, kvs, rfl, hr, e, q⟩ := h
  obtain ⟨u, rfl, ru⟩ := vals1 rs
  cases ru
  obtain ⟨hz, hd, vs, rel, dd⟩ := dk_of I.hok e
  obtain ⟨ep, da⟩ := dd.dictAt
  obtain ⟨hv, _, _⟩ := I.hok r _ hr
  have hzz : vs.length ≤ sizeLine := by rw [← rel.length]; exact hz
  refine PySem.W.kdl_call (PySem.W.kdl_values (kvs := vs) (d := d) (r := r) (ep := ep)) (I.ok.hd hc) ⟨hv, da⟩ hzz fun h' tk acc c' hk hD hacc => ?_
  have hacc2 : acc.toList = vs.map (·.2) := PySem.W.kdl_vals_eq acc.toList (by rw [Array.length_toList]; exact hacc.1) fun j v hj => hacc.2 j v (by rw [← Array.getElem?_toList]; exact hj)
  have hval : Vals (kvs.map (·.2)) acc.toList := by rw [hacc2]; exact rel.snds
  exact ⟨.ref s.heap.objs.size, _, I.laid hk (Nat.le_refl _) (show ObjOk X.prog X.w _ _ _ (.lst _) from ⟨by rw [List.length_map]; exact hz, acc.toList, c', hval, by simpa using hD⟩), rfl, q _ I.fresh⟩
end
end L2

set_option Elab.async false
set_option linter.all false
set_option maxRecDepth 100000
set_option maxHeartbeats 4000000
/-! MY OWN ADDITIONS to the hand layer: enumerate(list), list.index -/
namespace L2
open PySem PySem.Spec PyProof.Rows
/-- (0, x0), (1, x1), .. of the list at a, as it stands at each turn -/
def Ite (K : PySem.W.Frag) (a : Addr) : It :=
  ⟨fun i H => ∃ xs x, SqL K H a xs ∧ xs[i]? = some x, fun i H x H' => ∃ T0 vs, x = .ref T0 ∧ H T0 = none ∧ H' = upd H T0 (.tup vs) ∧ ∀ xs, SqL K H a xs → ∃ y, xs[i]? = some y ∧ vs = [.int i, y], fun i H => ∃ xs, SqL K H a xs ∧ xs.length = i⟩
theorem turn_enumL {P : Program} {w : World} {K : PySem.W.Frag} {elts : List Expr} {kk : Nat} {tp : Pos} (a it e : Addr) (hae : a ≠ e) (hai : a ≠ it) (hei : e ≠ it) :
    Turn P w K (.Tuple elts kk tp) (Ite K a) [e, it] e (fun i h => (∃ old, IsEnum h e it i old) ∧ h.IsListIter it a i) where
  mem := by simp
  obj := fun i h st b hb => by
    obtain ⟨⟨old, ho⟩, oi, hoi, _, hdi⟩ := st
    rcases List.mem_cons.mp hb with rfl | hb
    · exact ⟨_, ho, fun v z => by cases z⟩
    · rw [List.mem_singleton.mp hb]
      exact ⟨oi, hoi, fun v z => by rw [hdi] at z; cases z⟩
  keep := fun i h h' st k => ⟨let ⟨old, ho⟩ := st.1; ⟨old, k e (by simp) _ ho⟩, st.2.at fun o x => k it (by simp) o x⟩
  item := by
    intro X hP hw hK hc i pins s σ H E I hf st hg
    subst hP hw hK
    obtain ⟨xs, x, hq, hx⟩ := hg
    obtain ⟨its, rv, p, hz⟩ := I.list hq
    obtain ⟨u, hu, ru⟩ := rv.get hx
    have hil : i < its.length := (List.getElem?_eq_some_iff.mp hu).1
    have W0 := WalksT.enumerateD (A := X.A) (Draws.list (prog := X.prog) (w := X.w) (A := X.A.in1) (show X.A.in1.handled = none from I.ok.hd hc) it a hai its.toArray) e hei (by simp [hei, Ne.symm hae]) (by simp)
    refine W0.item i s _ _ (by simpa using hil) ⟨st.1, st.2, p.isList⟩ fun T0 vals h1 tk hp hle ht mid kk => ?_
    obtain ⟨t, v, hv, rfl⟩ := hp
    have hv : its[i]? = some v := by simpa using hv
    rw [hu] at hv; cases hv
    have fresh : H T0 = none := I.hok.fresh hle
    have I1 : Inv X pins σ (upd H T0 (.tup [.int i, x])) { s with heap := h1, toks := tk } := I.turnsT (wr := [e, it]) hf kk hle ht (.cons ⟨t, rfl⟩ (.cons ru .nil)) (by rw [sizeLine_eq]; simp)
    refine ⟨.ref T0, rfl, W0.go elts _ tp i T0 _ _ _ mid fun h2 st2 k2 => ?_⟩
    have hlt : ∀ b ∈ [e, it], b ≠ T0 := fun b hb z => by
      obtain ⟨⟨old, ho⟩, oi, hoi, _, hdi⟩ := st
      rcases List.mem_cons.mp hb with rfl | hb
      · exact absurd (Nat.lt_of_lt_of_le (Heap.lt_size ho) (z ▸ hle)) (Nat.lt_irrefl _)
      · rw [List.mem_singleton.mp hb] at z
        exact absurd (Nat.lt_of_lt_of_le (Heap.lt_size hoi) (z ▸ hle)) (Nat.lt_irrefl _)
    have hf1 : ∀ b ∈ [e, it], FpOk X pins (upd H T0 (.tup [.int i, x])) b := fun b hb => ⟨by rw [upd_ne (hlt b hb)]; exact (hf b hb).1, (hf b hb).2⟩
    exact ⟨.ref T0, _, I1.turns (t' := tk) hf1 k2, rfl, ⟨T0, _, rfl, fresh, rfl, fun ys hy => ⟨x, by rw [I.list_inj hy hq]; exact hx, rfl⟩⟩, ⟨st2.1, st2.2.1⟩, fun b hb => by rw [upd_ne (hlt b hb)]; exact (hf b hb).1⟩
  done := by
    intro X hP hw hK hc i pins s σ H E I hf st hg
    subst hP hw hK
    obtain ⟨xs, hq, hx⟩ := hg
    obtain ⟨its, rv, p, hz⟩ := I.list hq
    have hl := rv.length
    have hs : its.toArray.size = i := by simp; omega
    have W0 := WalksT.enumerateD (A := X.A) (Draws.list (prog := X.prog) (w := X.w) (A := X.A.in1) (show X.A.in1.handled = none from I.ok.hd hc) it a hai its.toArray) e hei (by simp [hei, Ne.symm hae]) (by simp)
    rw [hs] at W0
    exact W0.done s _ _ ⟨st.1, st.2, p.isList⟩ fun h1 tk kk => ⟨rfl, I.turns (wr := [e, it]) hf kk⟩
  self := fun A i s Q E st h => wpAny_pyIter_enum st.1.choose_spec h
section
variable {X : Cx} {e : Expr} {ta : TA} {elts : List Expr} {kk : Nat} {tp p pos : Pos}
/-- for i, x in enumerate(list) -/
def iEnL (K : PySem.W.Frag) (ta : TA) : TI := fun σ H R => ta σ H fun vs H1 => ∃ a, vs = [.ref a] ∧ (∃ xs, SqL K H1 a xs) ∧ R (Ite K a) H1
theorem pi_enum_list (hg : Gl X "enumerate") (hm : X.mg "enumerate" = none) (hA : PA X [e] ta) (hs : starEach [e] X.env = [(false, eval e X.env)] := by rfl) :
    PI X (.Tuple elts kk tp) (.Call (.Name "enumerate" p) [e] [] pos) (iEnL X.K ta) := by
  intro pins s σ H R I h
  refine Call_ (ld_blt I hg hm boot_enumerate (PyProof.Rows.callWith_type1 (thn (hA pos pins s σ H _ I h) fun us s1 ⟨vs, H1, I1, r1, q1⟩ => ?_) hs rfl))
  obtain ⟨a, rfl, ⟨xs, hq⟩, q⟩ := q1
  obtain ⟨u, rfl, ru⟩ := vals1 r1
  cases ru
  obtain ⟨its, rv, p, hz⟩ := I1.list hq
  refine call_enumerate_list p.isList fun h1 hen hit hsz hk => ?_
  have I2 : Inv X pins σ H1 { s1 with heap := h1 } := I1.kept (t' := s1.toks) hk
  refine wpAny_pyIter_enum hen ?_
  have hlt : a < s1.heap.objs.size := by obtain ⟨o, ho, _⟩ := p.isList; exact Heap.lt_size ho
  refine ⟨s1.heap.objs.size + 1, [s1.heap.objs.size + 1, s1.heap.objs.size], _, _, H1, rfl, I2, turn_enumL a s1.heap.objs.size (s1.heap.objs.size + 1) (Nat.ne_of_lt (Nat.lt_succ_of_lt hlt)) (Nat.ne_of_lt hlt) (Nat.succ_ne_self _), ⟨⟨_, hen⟩, hit⟩, fun b hb => ?_, q⟩
  rcases List.mem_cons.mp hb with rfl | hb
  · exact I1.fpOk (Nat.le_succ _) (I1.hok.fresh (Nat.le_succ _))
  · rw [List.mem_singleton.mp hb]
    exact I1.fpOk (Nat.le_refl _) (I1.hok.fresh (Nat.le_refl _))
/-- xs.index(k), whole numbers -/
def rIndexI (K : PySem.W.Frag) : V → List V → Hp → VK → Prop := fun x vs H Q => ∃ (a : Addr) (ns : List Int) (k : Int), x = .ref a ∧ vs = [.int k] ∧ SqL K H a (ns.map .int) ∧ k ∈ ns ∧ Q (.int (ns.idxOf k : Nat)) H
theorem ints_are : ∀ {ns : List Int} {its : List Value}, Vals (ns.map V.int) its → IntsAre its ns
  | [], _, h => by cases h; exact .nil
  | n :: ns, _, h => by
    cases h with
    | cons a b =>
      obtain ⟨t, rfl⟩ := a
      exact .cons n t (ints_are b)
theorem mt_index : MtR X "list.index" (rIndexI X.K) := by
  intro pins s σ H x xs v us Q I rx rs h
  obtain ⟨a, ns, k, rfl, rfl, hq, hk, q⟩ := h
  cases rx
  obtain ⟨u, rfl, ru⟩ := vals1 rs
  obtain ⟨t, rfl⟩ := ru
  obtain ⟨its, rv, ⟨o, n, ho, hc, hd, hdd⟩, hz⟩ := I.list hq
  obtain ⟨cls, dd, data, sl⟩ := o
  simp only at hc hd hdd
  subst hc hd hdd
  have hi := ints_are rv
  have hlen := hi.length
  have hj : ns.idxOf k < ns.length := List.idxOf_lt_length_iff.mpr hk
  rw [List.length_map] at hz
  have hz2 : ns.length ≤ 16777216 := by rw [← sizeLine_eq]; exact hz
  refine call_meets PySem.F.slot_list_index ⟨_, ho, rfl⟩ PySem.F.entry_list_index (PySem.F.args_list_index_2 _ _)
    (PySem.SeqAt.list_indexAt a its.toArray n _ sl (.int k t) (isInt k) (ns.idxOf k) (by simpa [hlen] using hj) (by omega) ?_ ?_) ⟨ho, fun y hy => (eq_isInt k t hi y (by simpa using hy)).at _ _, ⟨.int (ns.idxOf k : Nat), H, I.tok _, ⟨_, rfl⟩, q⟩⟩
  · show isInt k its[ns.idxOf k] = true
    rw [isInt_at k hi _ (by omega) hj]
    simpa using List.getElem_idxOf hj
  · intro j hjs hlt
    show isInt k its[j] = false
    rw [isInt_at k hi j (by simpa using hjs) (by omega)]
    exact ne_of_lt_idxOf hlt _
end
end L2

set_option Elab.async false
set_option linter.all false
set_option maxRecDepth 100000
set_option maxHeartbeats 4000000
/-! MY OWN ADDITIONS to the hand layer: data, whole; what stands in the slots, without the heap -/
namespace L2
open PySem PySem.Spec PyProof.Rows
inductive D where
  | non | bl (b : Bool) | int (i : Int) | str (l : List Nat) | lst (xs : List D) | tup (xs : List D)
instance : Inhabited D := ⟨.non⟩
mutual
def D.beq : D → D → Bool
  | .non, .non => true
  | .bl a, .bl b => a == b
  | .int a, .int b => a == b
  | .str a, .str b => a == b
  | .lst a, .lst b => D.beqs a b
  | .tup a, .tup b => D.beqs a b
  | _, _ => false
def D.beqs : List D → List D → Bool
  | [], [] => true
  | a :: x, b :: y => a.beq b && D.beqs x y
  | _, _ => false
end
mutual
theorem D.beq_iff : ∀ a b : D, a.beq b = true ↔ a = b
  | .non, b => by cases b <;> simp [D.beq]
  | .bl _, b => by cases b <;> simp [D.beq]
  | .int _, b => by cases b <;> simp [D.beq]
  | .str _, b => by cases b <;> simp [D.beq]
  | .lst a, b => by cases b <;> simp [D.beq, D.beqs_iff a]
  | .tup a, b => by cases b <;> simp [D.beq, D.beqs_iff a]
theorem D.beqs_iff : ∀ a b : List D, D.beqs a b = true ↔ a = b
  | [], b => by cases b <;> simp [D.beqs]
  | a :: x, b => by cases b <;> simp [D.beqs, D.beq_iff a, D.beqs_iff x]
end
instance : DecidableEq D := fun a b => decidable_of_iff _ (D.beq_iff a b)
mutual
/-- how deep -/
def D.dep : D → Nat
  | .lst a => D.deps a + 1
  | .tup a => D.deps a + 1
  | _ => 0
def D.deps : List D → Nat
  | [] => 0
  | a :: x => max a.dep (D.deps x)
end
mutual
/-- no truth in it -/
def D.nb : D → Bool
  | .bl _ => false
  | .lst a => D.nbs a
  | .tup a => D.nbs a
  | _ => true
def D.nbs : List D → Bool
  | [] => true
  | a :: x => a.nb && D.nbs x
end

/-! ### data as it lies -/
section
variable (K : PySem.W.Frag) (H : Hp)
mutual
def Rep : D → V → Prop
  | .non, v => v = .non
  | .bl b, v => v = .bl b
  | .int i, v => v = .int i
  | .str l, v => v = .str (T l) ∧ ∀ c ∈ l, c < 128
  | .lst ds, v => ∃ p xs, v = .ref p ∧ SqL K H p xs ∧ Reps ds xs
  | .tup ds, v => ∃ p xs, v = .ref p ∧ SqT K H p xs ∧ Reps ds xs
def Reps : List D → List V → Prop
  | [], xs => xs = []
  | d :: ds, xs => ∃ x r, xs = x :: r ∧ Rep d x ∧ Reps ds r
end
end
section
variable {K : PySem.W.Frag} {H H' : Hp}
mutual
theorem Rep.mono (s : Same H H') : ∀ {d : D} {v : V}, Rep K H d v → Rep K H' d v
  | .non, _, h => by simpa [Rep] using h
  | .bl _, _, h => by simpa [Rep] using h
  | .int _, _, h => by simpa [Rep] using h
  | .str _, _, h => by simpa [Rep] using h
  | .lst ds, _, h => by
    rw [Rep] at h ⊢
    obtain ⟨p, xs, e, q, r⟩ := h
    exact ⟨p, xs, e, SqL.same s q, Reps.mono s r⟩
  | .tup ds, _, h => by
    rw [Rep] at h ⊢
    obtain ⟨p, xs, e, q, r⟩ := h
    exact ⟨p, xs, e, SqT.same s q, Reps.mono s r⟩
theorem Reps.mono (s : Same H H') : ∀ {ds : List D} {xs : List V}, Reps K H ds xs → Reps K H' ds xs
  | [], _, h => by simpa [Reps] using h
  | d :: ds, _, h => by
    rw [Reps] at h ⊢
    obtain ⟨x, r, e, a, b⟩ := h
    exact ⟨x, r, e, Rep.mono s a, Reps.mono s b⟩
end
theorem Reps.nil : Reps K H [] [] := by rw [Reps]
theorem Reps.cons {d : D} {ds : List D} {x : V} {xs : List V} (a : Rep K H d x) (b : Reps K H ds xs) : Reps K H (d :: ds) (x :: xs) := by rw [Reps]; exact ⟨x, xs, rfl, a, b⟩
theorem Reps.length : ∀ {ds : List D} {xs : List V}, Reps K H ds xs → ds.length = xs.length
  | [], _, h => by rw [Reps] at h; subst h; rfl
  | d :: ds, _, h => by
    rw [Reps] at h
    obtain ⟨x, r, rfl, _, b⟩ := h
    simp [b.length]
theorem Reps.get : ∀ {ds : List D} {xs : List V} {i : Nat} {x : V}, Reps K H ds xs → xs[i]? = some x → ∃ d, ds[i]? = some d ∧ Rep K H d x
  | [], _, _, _, h, e => by rw [Reps] at h; subst h; simp at e
  | d :: ds, _, 0, _, h, e => by
    rw [Reps] at h
    obtain ⟨y, r, rfl, a, _⟩ := h
    cases e
    exact ⟨d, rfl, a⟩
  | d :: ds, _, i + 1, _, h, e => by
    rw [Reps] at h
    obtain ⟨y, r, rfl, _, b⟩ := h
    exact Reps.get (i := i) b e
theorem Reps.get' : ∀ {ds : List D} {xs : List V} {i : Nat} {d : D}, Reps K H ds xs → ds[i]? = some d → ∃ x, xs[i]? = some x ∧ Rep K H d x := fun {ds xs i d} h e => by
  have hl := h.length
  have hi := (List.getElem?_eq_some_iff.mp e).1
  obtain ⟨d', e', r⟩ := h.get (i := i) (x := xs[i]'(by omega)) (List.getElem?_eq_getElem _)
  rw [e] at e'; cases e'
  exact ⟨_, List.getElem?_eq_getElem _, r⟩
theorem Reps.append : ∀ {ds es : List D} {xs ys : List V}, Reps K H ds xs → Reps K H es ys → Reps K H (ds ++ es) (xs ++ ys)
  | [], _, _, _, h, h2 => by rw [Reps] at h; subst h; exact h2
  | d :: ds, _, _, _, h, h2 => by
    rw [Reps] at h
    obtain ⟨y, r, rfl, a, b⟩ := h
    exact Reps.cons a (Reps.append b h2)
theorem Reps.snoc {ds : List D} {xs : List V} {d : D} {x : V} (h : Reps K H ds xs) (a : Rep K H d x) : Reps K H (ds ++ [d]) (xs ++ [x]) := h.append (.cons a .nil)
theorem Reps.drop : ∀ (n : Nat) {ds : List D} {xs : List V}, Reps K H ds xs → Reps K H (ds.drop n) (xs.drop n)
  | 0, _, _, h => h
  | n + 1, [], _, h => by rw [Reps] at h; subst h; exact Reps.nil
  | n + 1, d :: ds, _, h => by
    rw [Reps] at h
    obtain ⟨y, r, rfl, _, b⟩ := h
    exact Reps.drop n b
theorem Reps.take : ∀ (n : Nat) {ds : List D} {xs : List V}, Reps K H ds xs → Reps K H (ds.take n) (xs.take n)
  | 0, _, _, h => Reps.nil
  | n + 1, [], _, h => by rw [Reps] at h; subst h; exact Reps.nil
  | n + 1, d :: ds, _, h => by
    rw [Reps] at h
    obtain ⟨y, r, rfl, a, b⟩ := h
    exact Reps.cons a (Reps.take n b)
theorem Reps.set {d : D} {x : V} (a : Rep K H d x) : ∀ (n : Nat) {ds : List D} {xs : List V}, Reps K H ds xs → Reps K H (ds.set n d) (xs.set n x)
  | _, [], _, h => by rw [Reps] at h; subst h; exact Reps.nil
  | 0, e :: ds, _, h => by
    rw [Reps] at h
    obtain ⟨y, r, rfl, _, b⟩ := h
    exact Reps.cons a b
  | n + 1, e :: ds, _, h => by
    rw [Reps] at h
    obtain ⟨y, r, rfl, c, b⟩ := h
    exact Reps.cons c (Reps.set a n b)
theorem Reps.reverse : ∀ {ds : List D} {xs : List V}, Reps K H ds xs → Reps K H ds.reverse xs.reverse
  | [], _, h => by rw [Reps] at h; subst h; exact Reps.nil
  | d :: ds, _, h => by
    rw [Reps] at h
    obtain ⟨y, r, rfl, a, b⟩ := h
    rw [List.reverse_cons, List.reverse_cons]
    exact (Reps.reverse b).snoc a
theorem Rep.lst {ds : List D} {p : Addr} {xs : List V} (q : SqL K H p xs) (r : Reps K H ds xs) : Rep K H (.lst ds) (.ref p) := by rw [Rep]; exact ⟨p, xs, rfl, q, r⟩
theorem Rep.tup {ds : List D} {p : Addr} {xs : List V} (q : SqT K H p xs) (r : Reps K H ds xs) : Rep K H (.tup ds) (.ref p) := by rw [Rep]; exact ⟨p, xs, rfl, q, r⟩
theorem Rep.int {i : Int} : Rep K H (.int i) (.int i) := by rw [Rep]
theorem Rep.bl {b : Bool} : Rep K H (.bl b) (.bl b) := by rw [Rep]
theorem Rep.str {l : List Nat} (h : ∀ c ∈ l, c < 128) : Rep K H (.str l) (.str (T l)) := by rw [Rep]; exact ⟨rfl, h⟩
theorem Rep.non : Rep K H .non .non := by rw [Rep]
theorem Rep.of_int {i : Int} {v : V} (h : Rep K H (.int i) v) : v = .int i := by rw [Rep] at h; exact h
theorem Rep.of_bl {b : Bool} {v : V} (h : Rep K H (.bl b) v) : v = .bl b := by rw [Rep] at h; exact h
theorem Rep.of_str {l : List Nat} {v : V} (h : Rep K H (.str l) v) : v = .str (T l) := by rw [Rep] at h; exact h.1
theorem Rep.asc {l : List Nat} {v : V} (h : Rep K H (.str l) v) : ∀ c ∈ l, c < 128 := by rw [Rep] at h; exact h.2
theorem Rep.of_non {v : V} (h : Rep K H .non v) : v = .non := by rw [Rep] at h; exact h
theorem Rep.of_lst {ds : List D} {v : V} (h : Rep K H (.lst ds) v) : ∃ p xs, v = .ref p ∧ SqL K H p xs ∧ Reps K H ds xs := by rw [Rep] at h; exact h
theorem Rep.of_tup {ds : List D} {v : V} (h : Rep K H (.tup ds) v) : ∃ p xs, v = .ref p ∧ SqT K H p xs ∧ Reps K H ds xs := by rw [Rep] at h; exact h
theorem Reps.ints {p : Addr} : ∀ (ns : List Int), Reps K H (ns.map D.int) (ns.map V.int)
  | [] => Reps.nil
  | n :: ns => Reps.cons Rep.int (Reps.ints (p := p) ns)
end

/-! ### what a def holds: G, H₀ the frozen part and the heap at its entry; F, H now -/
structure Ext (G H₀ F H : Hp) : Prop where
  gf : Same G F
  fh : Same F H
  hh : Same H₀ H
  no : ∀ b o, H₀ b = some o → F b = G b
theorem Ext.refl {G H : Hp} (s : Same G H) : Ext G H G H := ⟨Same.refl _, s, Same.refl _, fun _ _ _ => rfl⟩
theorem Ext.trans {G H F1 H1 F2 H2 : Hp} (a : Ext G H F1 H1) (b : Ext F1 H1 F2 H2) : Ext G H F2 H2 :=
  ⟨a.gf.trans b.gf, b.fh, a.hh.trans b.hh, fun c o e => (b.no c o (a.hh c o e)).trans (a.no c o e)⟩
/-- a new thing, frozen -/
theorem Ext.newF {G H₀ F H : Hp} (x : Ext G H₀ F H) {p : Addr} {o : HO} (hp : H p = none) : Ext G H₀ (upd F p o) (upd H p o) := by
  have fp : F p = none := x.fh.free hp
  refine ⟨x.gf.trans (Same.upd fp), fun b u e => ?_, x.hh.trans (Same.upd hp), fun b u e => ?_⟩
  · by_cases hb : b = p
    · subst hb; rw [upd_same] at e ⊢; exact e
    · rw [upd_ne hb] at e ⊢; exact x.fh b u e
  · have hb : b ≠ p := fun z => by subst z; have := x.hh b u e; rw [hp] at this; cases this
    rw [upd_ne hb]; exact x.no b u e
/-- a new thing, ours alone -/
theorem Ext.newO {G H₀ F H : Hp} (x : Ext G H₀ F H) {p : Addr} {o : HO} (hp : H p = none) : Ext G H₀ F (upd H p o) :=
  ⟨x.gf, x.fh.trans (Same.upd hp), x.hh.trans (Same.upd hp), x.no⟩
/-- a thing of ours is changed -/
theorem Ext.write {G H₀ F H : Hp} (x : Ext G H₀ F H) {p : Addr} {o : HO} (fp : F p = none) (hp : H₀ p = none) : Ext G H₀ F (upd H p o) :=
  ⟨x.gf, fun b u e => by rw [upd_ne (ne_of_none e fp)]; exact x.fh b u e, fun b u e => by rw [upd_ne (ne_of_none e hp)]; exact x.hh b u e, x.no⟩
/-- a thing of ours is frozen -/
theorem Ext.freeze {G H₀ F H : Hp} (x : Ext G H₀ F H) {p : Addr} {o : HO} (fp : F p = none) (hp : H₀ p = none) (e : H p = some o) : Ext G H₀ (upd F p o) H := by
  refine ⟨x.gf.trans (Same.upd fp), fun b u q => ?_, x.hh, fun b u q => ?_⟩
  · by_cases hb : b = p
    · subst hb; rw [upd_same] at q; cases q; exact e
    · rw [upd_ne hb] at q; exact x.fh b u q
  · rw [upd_ne (ne_of_none q hp)]; exact x.no b u q

/-- a slot: nothing known; a frozen thing; a list of ours; a list of lists of ours; a thing v of ours, made of what stands at as, of which W is known -/
inductive Sl where
  | un | d (x : D) | o (p : Addr) (xs : List D) | oo (p : Addr) (qs : List (Addr × List D)) | g (v : V) (as : List Addr) (W : Hp → Hp → Prop)
def Sl.ads : Sl → List Addr
  | .un => [] | .d _ => [] | .o p _ => [p] | .oo p qs => p :: qs.map (·.1) | .g _ as _ => as
/-- a list of ours at p -/
def OwnL (K : PySem.W.Frag) (H₀ F H : Hp) (p : Addr) (xs : List D) : Prop := H₀ p = none ∧ F p = none ∧ ∃ vs, H p = some (.lst vs) ∧ Reps K F xs vs
/-- W hangs on what is frozen and on what stands at as alone -/
def Stab (as : List Addr) (W : Hp → Hp → Prop) : Prop := ∀ F1 H1 F2 H2 : Hp, Same F1 F2 → (∀ a ∈ as, H2 a = H1 a) → W F1 H1 → W F2 H2
def SlOk (K : PySem.W.Frag) (H₀ F H : Hp) (ov : Option V) : Sl → Prop
  | .un => True
  | .d x => ∃ v, ov = some v ∧ Rep K F x v
  | .o p xs => ov = some (.ref p) ∧ OwnL K H₀ F H p xs
  | .oo p qs => ov = some (.ref p) ∧ H₀ p = none ∧ F p = none ∧ H p = some (.lst (qs.map fun q => V.ref q.1)) ∧ ∀ q ∈ qs, OwnL K H₀ F H q.1 q.2
  | .g v as W => ov = some v ∧ (∀ a ∈ as, H₀ a = none ∧ F a = none ∧ ∃ o, H a = some o) ∧ W F H ∧ Stab as W
/-- the state: G, H₀ at the entry; L what is known to be frozen -/
structure Sat (K : PySem.W.Frag) (G H₀ L F H : Hp) (σ : St) (ss : List Sl) : Prop where
  ext : Ext G H₀ F H
  fl : Same L F
  len : σ.length = ss.length
  ok : ∀ (i : Nat) s, ss[i]? = some s → SlOk K H₀ F H (σ.getD i none) s
  nd : ∀ (i : Nat) s, ss[i]? = some s → s.ads.Nodup
  ne : ∀ (i j : Nat) s s', i ≠ j → ss[i]? = some s → ss[j]? = some s' → ∀ p ∈ s.ads, p ∉ s'.ads
section
variable {K : PySem.W.Frag} {H₀ F H F' H' : Hp}
theorem OwnL.ext2 {p : Addr} {xs : List D} (h : OwnL K H₀ F H p xs) (e : Ext F H F' H') : OwnL K H₀ F' H' p xs := by
  obtain ⟨h0, fp, vs, hp, r⟩ := h
  exact ⟨h0, (e.no p _ hp).trans fp, vs, e.hh p _ hp, r.mono e.gf⟩
theorem SlOk.ext2 {ov : Option V} {s : Sl} (h : SlOk K H₀ F H ov s) (e : Ext F H F' H') : SlOk K H₀ F' H' ov s := by
  cases s with
  | un => trivial
  | d x => obtain ⟨v, ev, r⟩ := h; exact ⟨v, ev, r.mono e.gf⟩
  | o p xs => exact ⟨h.1, h.2.ext2 e⟩
  | oo p qs =>
    obtain ⟨ev, h0, fp, hp, hq⟩ := h
    exact ⟨ev, h0, (e.no p _ hp).trans fp, e.hh p _ hp, fun q hm => (hq q hm).ext2 e⟩
  | g v as W =>
    obtain ⟨ev, ha, hw, st⟩ := h
    refine ⟨ev, fun a hm => ?_, st _ _ _ _ e.gf (fun a hm => ?_) hw, st⟩
    · obtain ⟨h0, fa, o, ho⟩ := ha a hm
      exact ⟨h0, (e.no a _ ho).trans fa, o, e.hh a _ ho⟩
    · obtain ⟨h0, fa, o, ho⟩ := ha a hm
      rw [e.hh a _ ho, ho]
theorem OwnL.updNe {p a : Addr} {o : HO} {xs : List D} (h : OwnL K H₀ F H p xs) (hn : p ≠ a) : OwnL K H₀ F (upd H a o) p xs := by
  obtain ⟨h0, fp, vs, hp, r⟩ := h
  exact ⟨h0, fp, vs, by rw [upd_ne hn]; exact hp, r⟩
/-- another one's list is changed -/
theorem SlOk.updNe {ov : Option V} {s : Sl} {a : Addr} {o : HO} (h : SlOk K H₀ F H ov s) (hn : a ∉ s.ads) : SlOk K H₀ F (upd H a o) ov s := by
  cases s with
  | un => trivial
  | d x => exact h
  | o p xs => exact ⟨h.1, h.2.updNe fun z => hn (by simp [Sl.ads, z])⟩
  | oo p qs =>
    obtain ⟨ev, h0, fp, hp, hq⟩ := h
    refine ⟨ev, h0, fp, by rw [upd_ne fun z => hn (by simp [Sl.ads, z])]; exact hp, fun q hm => (hq q hm).updNe fun z => hn ?_⟩
    rw [← z]
    exact List.mem_cons_of_mem _ (List.mem_map_of_mem hm)
  | g v as W =>
    obtain ⟨ev, ha, hw, st⟩ := h
    have hne : ∀ b ∈ as, b ≠ a := fun b hm z => hn (by rw [← z]; exact hm)
    refine ⟨ev, fun b hm => ?_, st _ _ _ _ (Same.refl _) (fun b hm => upd_ne (hne b hm)) hw, st⟩
    obtain ⟨h0, fa, x, ho⟩ := ha b hm
    exact ⟨h0, fa, x, by rw [upd_ne (hne b hm)]; exact ho⟩
/-- .. is frozen -/
theorem OwnL.frz {p a : Addr} {o : HO} {xs : List D} (h : OwnL K H₀ F H p xs) (fa : F a = none) (hn : p ≠ a) : OwnL K H₀ (upd F a o) H p xs := by
  obtain ⟨h0, fp, vs, hp, r⟩ := h
  exact ⟨h0, by rw [upd_ne hn]; exact fp, vs, hp, r.mono (Same.upd fa)⟩
theorem SlOk.frz {ov : Option V} {s : Sl} {a : Addr} {o : HO} (h : SlOk K H₀ F H ov s) (fa : F a = none) (hn : a ∉ s.ads) : SlOk K H₀ (upd F a o) H ov s := by
  cases s with
  | un => trivial
  | d x => obtain ⟨v, ev, r⟩ := h; exact ⟨v, ev, r.mono (Same.upd fa)⟩
  | o p xs => exact ⟨h.1, h.2.frz fa fun z => hn (by simp [Sl.ads, z])⟩
  | oo p qs =>
    obtain ⟨ev, h0, fp, hp, hq⟩ := h
    refine ⟨ev, h0, by rw [upd_ne fun z => hn (by simp [Sl.ads, z])]; exact fp, hp, fun q hm => (hq q hm).frz fa fun z => hn ?_⟩
    rw [← z]
    exact List.mem_cons_of_mem _ (List.mem_map_of_mem hm)
  | g v as W =>
    obtain ⟨ev, ha, hw, st⟩ := h
    have hne : ∀ b ∈ as, b ≠ a := fun b hm z => hn (by rw [← z]; exact hm)
    refine ⟨ev, fun b hm => ?_, st _ _ _ _ (Same.upd fa) (fun _ _ => rfl) hw, st⟩
    obtain ⟨h0, fb, x, ho⟩ := ha b hm
    exact ⟨h0, by rw [upd_ne (hne b hm)]; exact fb, x, ho⟩
/-- what is ours is there -/
theorem SlOk.live {ov : Option V} {s : Sl} (h : SlOk K H₀ F H ov s) {p : Addr} (hp : p ∈ s.ads) : H p ≠ none := by
  cases s with
  | un => simp [Sl.ads] at hp
  | d x => simp [Sl.ads] at hp
  | o q xs =>
    obtain ⟨_, _, _, vs, hq, _⟩ := h
    simp [Sl.ads] at hp; subst hp; rw [hq]; simp
  | oo q qs =>
    obtain ⟨ev, h0, fp, hq, hqs⟩ := h
    rcases List.mem_cons.mp hp with rfl | hp
    · rw [hq]; simp
    · obtain ⟨r, hr, rfl⟩ := List.mem_map.mp hp
      obtain ⟨_, _, vs, hv, _⟩ := hqs r hr
      rw [hv]; simp
  | g v as W =>
    obtain ⟨ev, ha, hw, st⟩ := h
    obtain ⟨_, _, x, ho⟩ := ha p hp
    rw [ho]; simp
end
end L2

set_option Elab.async false
set_option linter.all false
set_option maxRecDepth 100000
set_option maxHeartbeats 4000000
namespace L2
open PySem PySem.Spec PyProof.Rows
section
variable {K : PySem.W.Frag} {G H₀ L F H F' H' : Hp} {σ : St} {ss : List Sl}
theorem Sat.ext2 (S : Sat K G H₀ L F H σ ss) (e : Ext F H F' H') : Sat K G H₀ L F' H' σ ss :=
  ⟨S.ext.trans e, S.fl.trans e.gf, S.len, fun i s hs => (S.ok i s hs).ext2 e, S.nd, S.ne⟩
theorem Sat.get (S : Sat K G H₀ L F H σ ss) {i : Nat} {s : Sl} (hs : ss[i]? = some s) (hn : s ≠ .un) : ∃ v, σ[i]? = some (some v) ∧ SlOk K H₀ F H (some v) s := by
  have hi : i < σ.length := by rw [S.len]; exact (List.getElem?_eq_some_iff.mp hs).1
  have := S.ok i s hs
  rw [List.getD_eq_getElem?_getD, List.getElem?_eq_getElem hi] at this
  simp only [Option.getD_some] at this
  cases hv : σ[i] with
  | none =>
    rw [hv] at this
    cases s with
    | un => exact absurd rfl hn
    | d x => obtain ⟨v, ev, _⟩ := this; cases ev
    | o p xs => obtain ⟨ev, _⟩ := this; cases ev
    | oo p qs => obtain ⟨ev, _⟩ := this; cases ev
    | g v as W => obtain ⟨ev, _⟩ := this; cases ev
  | some v =>
    rw [hv] at this
    exact ⟨v, by rw [List.getElem?_eq_getElem hi, hv], this⟩
theorem Sat.getD (S : Sat K G H₀ L F H σ ss) {i : Nat} {x : D} (hs : ss[i]? = some (.d x)) : ∃ v, σ[i]? = some (some v) ∧ Rep K F x v := by
  obtain ⟨v, e, w, ew, r⟩ := S.get hs (by intro z; cases z)
  cases ew
  exact ⟨v, e, r⟩
theorem Sat.getO (S : Sat K G H₀ L F H σ ss) {i : Nat} {p : Addr} {xs : List D} (hs : ss[i]? = some (.o p xs)) : σ[i]? = some (some (.ref p)) ∧ OwnL K H₀ F H p xs := by
  obtain ⟨v, e, ew, r⟩ := S.get hs (by intro z; cases z)
  cases ew
  exact ⟨e, r⟩
theorem getD_set_self {σ : St} {i : Nat} {v : Option V} (h : i < σ.length) : (σ.set i v).getD i none = v := by
  rw [List.getD_eq_getElem?_getD, List.getElem?_set_self h]; rfl
theorem getD_set_ne {σ : St} {i j : Nat} {v : Option V} (h : i ≠ j) : (σ.set i v).getD j none = σ.getD j none := by
  rw [List.getD_eq_getElem?_getD, List.getElem?_set_ne h, List.getD_eq_getElem?_getD]
theorem set_cases {i j : Nat} {s t : Sl} (h : (ss.set i s)[j]? = some t) : (i = j ∧ t = s ∧ i < ss.length) ∨ (i ≠ j ∧ ss[j]? = some t) := by
  by_cases hj : i = j
  · subst hj
    have hi := (List.getElem?_eq_some_iff.mp h).1
    rw [List.length_set] at hi
    rw [List.getElem?_set_self hi] at h
    exact .inl ⟨rfl, (Option.some.inj h).symm, hi⟩
  · rw [List.getElem?_set_ne hj] at h; exact .inr ⟨hj, h⟩
/-- the i-th slot is another now; the others hold as they did -/
theorem Sat.put {σ' : St} (S : Sat K G H₀ L F H σ ss) {i : Nat} {s : Sl} (ex : Ext G H₀ F' H') (fl : Same L F') (hl : σ'.length = σ.length) (hσ : ∀ j, j ≠ i → σ'.getD j none = σ.getD j none) (hi : i < ss.length → SlOk K H₀ F' H' (σ'.getD i none) s)
    (nd : s.ads.Nodup) (dj : ∀ (j : Nat) s', j ≠ i → ss[j]? = some s' → ∀ p ∈ s.ads, p ∉ s'.ads) (st : ∀ (j : Nat) s', j ≠ i → ss[j]? = some s' → SlOk K H₀ F' H' (σ.getD j none) s') : Sat K G H₀ L F' H' σ' (ss.set i s) := by
  refine ⟨ex, fl, by rw [List.length_set, hl, S.len], fun j t ht => ?_, fun j t ht => ?_, fun j k t u hjk ht hu => ?_⟩
  · rcases set_cases ht with ⟨rfl, rfl, hlt⟩ | ⟨hj, ht⟩
    · exact hi hlt
    · rw [hσ j (Ne.symm hj)]; exact st j t (Ne.symm hj) ht
  · rcases set_cases ht with ⟨rfl, rfl, _⟩ | ⟨hj, ht⟩
    · exact nd
    · exact S.nd j t ht
  · rcases set_cases ht with ⟨rfl, rfl, _⟩ | ⟨hj, ht'⟩
    · rcases set_cases hu with ⟨rfl, rfl, _⟩ | ⟨hk, hu'⟩
      · exact absurd rfl hjk
      · exact dj k u (Ne.symm hk) hu'
    · rcases set_cases hu with ⟨rfl, rfl, _⟩ | ⟨hk, hu'⟩
      · exact fun p hp hp' => dj j t (Ne.symm hj) ht' p hp' hp
      · exact S.ne j k t u hjk ht' hu'
/-- a name is given a frozen thing -/
theorem Sat.setD (S : Sat K G H₀ L F H σ ss) {i : Nat} {x : D} {v : V} (r : Rep K F x v) : Sat K G H₀ L F H (σ.set i (some v)) (ss.set i (.d x)) :=
  S.put S.ext S.fl (by simp) (fun j hj => getD_set_ne (Ne.symm hj)) (fun hi => by rw [getD_set_self (by rw [S.len]; exact hi)]; exact ⟨v, rfl, r⟩) (by simp [Sl.ads]) (fun _ _ _ _ p hp => by simp [Sl.ads] at hp) fun j s' _ h => S.ok j s' h
/-- a name is given a list of ours -/
theorem Sat.setO (S : Sat K G H₀ L F H σ ss) {i : Nat} {xs : List D} {p : Addr} (r : OwnL K H₀ F H p xs) (hne : ∀ (j : Nat) s', j ≠ i → ss[j]? = some s' → p ∉ s'.ads) : Sat K G H₀ L F H (σ.set i (some (.ref p))) (ss.set i (.o p xs)) :=
  S.put S.ext S.fl (by simp) (fun j hj => getD_set_ne (Ne.symm hj)) (fun hi => by rw [getD_set_self (by rw [S.len]; exact hi)]; exact ⟨rfl, r⟩) (by simp [Sl.ads]) (fun j s' hj h q hq => by simp [Sl.ads] at hq; subst hq; exact hne j s' hj h) fun j s' _ h => S.ok j s' h
/-- a list of ours is changed -/
theorem Sat.write (S : Sat K G H₀ L F H σ ss) {i : Nat} {xs ys : List D} {p : Addr} {vs : List V} (hs : ss[i]? = some (.o p xs)) (r : Reps K F ys vs) : Sat K G H₀ L F (upd H p (.lst vs)) σ (ss.set i (.o p ys)) := by
  obtain ⟨e, h0, fp, ws, hp, _⟩ := S.getO hs
  have hget : σ.getD i none = some (.ref p) := by rw [List.getD_eq_getElem?_getD, e]; rfl
  refine S.put (S.ext.write fp h0) S.fl rfl (fun _ _ => rfl) (fun _ => by rw [hget]; exact ⟨rfl, h0, fp, vs, upd_same, r⟩) (by simp [Sl.ads]) (fun j s' hj h q hq => ?_) fun j s' hj h => (S.ok j s' h).updNe (S.ne i j _ s' (Ne.symm hj) hs h p (by simp [Sl.ads]))
  simp [Sl.ads] at hq; subst hq
  exact S.ne i j _ s' (Ne.symm hj) hs h q (by simp [Sl.ads])
/-- a list of ours is frozen -/
theorem Sat.freeze (S : Sat K G H₀ L F H σ ss) {i : Nat} {p : Addr} {xs : List D} (hs : ss[i]? = some (.o p xs)) : ∃ F', Sat K G H₀ L F' H σ (ss.set i (.d (.lst xs))) := by
  obtain ⟨e, h0, fp, vs, hp, r⟩ := S.getO hs
  have hget : σ.getD i none = some (.ref p) := by rw [List.getD_eq_getElem?_getD, e]; rfl
  exact ⟨upd F p (.lst vs), S.put (S.ext.freeze fp h0 hp) (S.fl.trans (Same.upd fp)) rfl (fun _ _ => rfl) (fun _ => by rw [hget]; exact ⟨_, rfl, Rep.lst (SqL.of upd_same) (r.mono (Same.upd fp))⟩) (by simp [Sl.ads]) (fun _ _ _ _ q hq => by simp [Sl.ads] at hq)
    fun j s' hj h => (S.ok j s' h).frz fp (S.ne i j _ s' (Ne.symm hj) hs h p (by simp [Sl.ads]))⟩
theorem Sat.raise (S : Sat K G H₀ L F H σ ss) : Sat K G H₀ F F H σ ss := ⟨S.ext, Same.refl _, S.len, S.ok, S.nd, S.ne⟩
theorem Sat.lower {L' : Hp} (S : Sat K G H₀ L' F H σ ss) (h : Same L L') : Sat K G H₀ L F H σ ss := ⟨S.ext, h.trans S.fl, S.len, S.ok, S.nd, S.ne⟩
end

/-! ### the judgements: what an expression comes to -/
section
variable (K : PySem.W.Frag) (G H₀ L : Hp) (ss : List Sl)
/-- frozen -/
def Ev (t : TE) (d : D) : Prop := ∀ F H σ Q, Sat K G H₀ L F H σ ss → (∀ v F' H', Ext F H F' H' → Rep K F' d v → Q v H') → t σ H Q
/-- a new list, its things frozen -/
def EvO (t : TE) (ds : List D) : Prop := ∀ F H σ Q, Sat K G H₀ L F H σ ss → (∀ p vs F' H', Ext F H F' H' → H p = none → F' p = none → H' p = some (.lst vs) → Reps K F' ds vs → Q (.ref p) H') → t σ H Q
/-- some list, its things frozen -/
def EvL (t : TE) (ds : List D) : Prop := ∀ F H σ Q, Sat K G H₀ L F H σ ss → (∀ p vs F' H', Ext F H F' H' → SqL K H' p vs → Reps K F' ds vs → Q (.ref p) H') → t σ H Q
/-- as it is now -/
def EvB (t : TE) (d : D) : Prop := ∀ F H σ Q, Sat K G H₀ L F H σ ss → (∀ v F' H', Ext F H F' H' → Rep K H' d v → Q v H') → t σ H Q
def EvT (t : TT) (b : Bool) : Prop := ∀ F H σ (Q : Bool → Hp → Prop), Sat K G H₀ L F H σ ss → (∀ F' H', Ext F H F' H' → Q b H') → t σ H Q
/-- an argument list: as it is now; frozen -/
def EvA (t : TA) (ds : List D) : Prop := ∀ F H σ (Q : List V → Hp → Prop), Sat K G H₀ L F H σ ss → (∀ vs F' H', Ext F H F' H' → Reps K H' ds vs → Q vs H') → t σ H Q
def EvAF (t : TA) (ds : List D) : Prop := ∀ F H σ (Q : List V → Hp → Prop), Sat K G H₀ L F H σ ss → (∀ vs F' H', Ext F H F' H' → Reps K F' ds vs → Q vs H') → t σ H Q
end
section
variable {K : PySem.W.Frag} {G H₀ L : Hp} {ss : List Sl} {t ta tb : TE} {d d1 d2 : D} {ds es : List D}
theorem EvO.ev (h : EvO K G H₀ L ss t ds) : Ev K G H₀ L ss t (.lst ds) := fun F H σ Q S q => h F H σ Q S fun p vs F' H' e hp fp hp' r => q _ _ _ (e.freeze fp hp hp') (Rep.lst (SqL.of upd_same) (r.mono (Same.upd fp)))
theorem EvO.l (h : EvO K G H₀ L ss t ds) : EvL K G H₀ L ss t ds := fun F H σ Q S q => h F H σ Q S fun p vs F' H' e hp fp hp' r => q _ _ _ _ e (SqL.of hp') r
theorem Ev.l (h : Ev K G H₀ L ss t (.lst ds)) : EvL K G H₀ L ss t ds := fun F H σ Q S q => h F H σ Q S fun v F' H' e r => by
  obtain ⟨p, xs, rfl, sq, rs⟩ := r.of_lst
  exact q _ _ _ _ e (SqL.same e.fh sq) rs
theorem Ev.b (h : Ev K G H₀ L ss t d) : EvB K G H₀ L ss t d := fun F H σ Q S q => h F H σ Q S fun v F' H' e r => q _ _ _ e (r.mono e.fh)
theorem EvL.b (h : EvL K G H₀ L ss t ds) : EvB K G H₀ L ss t (.lst ds) := fun F H σ Q S q => h F H σ Q S fun p vs F' H' e sq r => q _ _ _ e (Rep.lst sq (r.mono e.fh))
theorem ev_var {i : Nat} (hs : ss[i]? = some (.d d)) : Ev K G H₀ L ss (tVar i) d := fun F H σ Q S q => by
  obtain ⟨v, e, r⟩ := S.getD hs
  exact ⟨v, e, q _ _ _ (Ext.refl S.ext.fh) r⟩
theorem evl_own {i : Nat} {p : Addr} (hs : ss[i]? = some (.o p ds)) : EvL K G H₀ L ss (tVar i) ds := fun F H σ Q S q => by
  obtain ⟨e, h0, fp, vs, hp, r⟩ := S.getO hs
  exact ⟨.ref p, e, q _ _ _ _ (Ext.refl S.ext.fh) (SqL.of hp) r⟩
theorem ev_int {i : Int} : Ev K G H₀ L ss (tC (.int i)) (.int i) := fun F H σ Q S q => q _ _ _ (Ext.refl S.ext.fh) Rep.int
/-- two things that are read, and a thing that needs no heap -/
theorem ev_op2 {r : R2} {w : V} (a : EvB K G H₀ L ss ta d1) (b : EvB K G H₀ L ss tb d2) (hr : ∀ H x y (Q : VK), Rep K H d1 x → Rep K H d2 y → Q w H → r x y H Q) (hw : ∀ F H x y, Rep K H d1 x → Rep K H d2 y → Rep K F d w) : Ev K G H₀ L ss (tOp r ta tb) d := fun F H σ Q S q =>
  a F H σ _ S fun x F1 H1 e1 r1 => b F1 H1 σ _ (S.ext2 e1) fun y F2 H2 e2 r2 => hr H2 x y Q (r1.mono e2.hh) r2 (q _ _ _ (e1.trans e2) (hw _ _ _ _ (r1.mono e2.hh) r2))
theorem ev_add {i j : Int} (a : EvB K G H₀ L ss ta (.int i)) (b : EvB K G H₀ L ss tb (.int j)) : Ev K G H₀ L ss (tOp (rI0 fun i j => .int (i + j)) ta tb) (.int (i + j)) :=
  ev_op2 a b (fun H x y Q r1 r2 q => ⟨i, j, r1.of_int, r2.of_int, q⟩) fun _ _ _ _ _ _ => Rep.int
theorem ev_opI {C : Int → Int → Prop} {g : Int → Int → Int} {i j : Int} (a : EvB K G H₀ L ss ta (.int i)) (b : EvB K G H₀ L ss tb (.int j)) (hC : C i j) : Ev K G H₀ L ss (tOp (rI C fun i j => .int (g i j)) ta tb) (.int (g i j)) :=
  ev_op2 a b (fun H x y Q r1 r2 q => ⟨i, j, r1.of_int, r2.of_int, hC, q⟩) fun _ _ _ _ _ _ => Rep.int
theorem ev_cmpI {g : Int → Int → Bool} {i j : Int} (a : EvB K G H₀ L ss ta (.int i)) (b : EvB K G H₀ L ss tb (.int j)) : Ev K G H₀ L ss (tOp (rI0 fun i j => .bl (g i j)) ta tb) (.bl (g i j)) :=
  ev_op2 a b (fun H x y Q r1 r2 q => ⟨i, j, r1.of_int, r2.of_int, q⟩) fun _ _ _ _ _ _ => Rep.bl
theorem ev_eqI {i j : Int} (a : EvB K G H₀ L ss ta (.int i)) (b : EvB K G H₀ L ss tb (.int j)) : Ev K G H₀ L ss (tOp rEq ta tb) (.bl (decide (i = j))) :=
  ev_op2 (w := .bl (decide (i = j))) a b (fun H x y Q r1 r2 q => by rw [r1.of_int, r2.of_int]; exact ⟨rfl, by simpa using q⟩) fun _ _ _ _ _ _ => Rep.bl
theorem Reps.atI {H : Hp} {ds : List D} {vs : List V} {i : Int} {d : D} (r : Reps K H ds vs) (h : L2.atI ds i = some d) : ∃ v, L2.atI vs i = some v ∧ Rep K H d v := by
  unfold L2.atI at h ⊢
  rw [r.length] at h
  cases hx : ixN vs.length i with
  | none => rw [hx] at h; cases h
  | some j => rw [hx] at h; exact r.get' h
theorem ev_ixL {i : Int} (a : EvL K G H₀ L ss ta ds) (b : EvB K G H₀ L ss tb (.int i)) (hc : atI ds i = some d) : Ev K G H₀ L ss (tOp (rIxL K) ta tb) d := fun F H σ Q S q =>
  a F H σ _ S fun p vs F1 H1 e1 sq r1 => b F1 H1 σ _ (S.ext2 e1) fun y F2 H2 e2 r2 => by
    obtain ⟨v, hv, rv⟩ := r1.atI hc
    exact ⟨p, vs, i, v, rfl, r2.of_int, SqL.same e2.hh sq, hv, q _ _ _ (e1.trans e2) (rv.mono e2.gf)⟩
theorem ev_ixT {i : Int} (a : Ev K G H₀ L ss ta (.tup ds)) (b : EvB K G H₀ L ss tb (.int i)) (hc : atI ds i = some d) : Ev K G H₀ L ss (tOp (rIxT K) ta tb) d := fun F H σ Q S q =>
  a F H σ _ S fun x F1 H1 e1 r1 => b F1 H1 σ _ (S.ext2 e1) fun y F2 H2 e2 r2 => by
    obtain ⟨p, vs, rfl, sq, rs⟩ := r1.of_tup
    obtain ⟨v, hv, rv⟩ := rs.atI hc
    exact ⟨p, vs, i, v, rfl, r2.of_int, SqT.same (e1.fh.trans e2.hh) sq, hv, q _ _ _ (e1.trans e2) (rv.mono e2.gf)⟩
theorem eva_nil : EvA K G H₀ L ss tNil [] := fun F H σ Q S q => q _ _ _ (Ext.refl S.ext.fh) Reps.nil
theorem eva_cons {t : TA} (a : EvB K G H₀ L ss ta d) (b : EvA K G H₀ L ss t ds) : EvA K G H₀ L ss (tCons ta t) (d :: ds) := fun F H σ Q S q =>
  a F H σ _ S fun x F1 H1 e1 r1 => b F1 H1 σ _ (S.ext2 e1) fun vs F2 H2 e2 r2 => q _ _ _ (e1.trans e2) (Reps.cons (r1.mono e2.hh) r2)
theorem evaf_nil : EvAF K G H₀ L ss tNil [] := fun F H σ Q S q => q _ _ _ (Ext.refl S.ext.fh) Reps.nil
theorem evaf_cons {t : TA} (a : Ev K G H₀ L ss ta d) (b : EvAF K G H₀ L ss t ds) : EvAF K G H₀ L ss (tCons ta t) (d :: ds) := fun F H σ Q S q =>
  a F H σ _ S fun x F1 H1 e1 r1 => b F1 H1 σ _ (S.ext2 e1) fun vs F2 H2 e2 r2 => q _ _ _ (e1.trans e2) (Reps.cons (r1.mono e2.gf) r2)
theorem ev_tup {t : TA} (a : EvAF K G H₀ L ss t ds) (hz : ds.length ≤ sizeLine) : Ev K G H₀ L ss (tTup t) (.tup ds) := fun F H σ Q S q =>
  a F H σ _ S fun vs F1 H1 e1 r1 => ⟨by rw [← r1.length]; exact hz, fun p hp => q _ _ _ (e1.newF hp) (Rep.tup (SqT.of upd_same) (r1.mono (Same.upd (e1.fh.free hp))))⟩
theorem evo_lst {t : TA} (a : EvAF K G H₀ L ss t ds) (hz : ds.length ≤ sizeLine) : EvO K G H₀ L ss (tLst t) ds := fun F H σ Q S q =>
  a F H σ _ S fun vs F1 H1 e1 r1 => ⟨by rw [← r1.length]; exact hz, fun p hp => q p vs F1 _ (e1.newO hp) (e1.hh.free hp) (e1.fh.free hp) upd_same r1⟩
/-! tests -/
theorem evt_test {b : Bool} (a : Ev K G H₀ L ss t (.bl b)) : EvT K G H₀ L ss (tTest t) b := fun F H σ Q S q => a F H σ _ S fun v F' H' e r => ⟨b, r.of_bl, q _ _ e⟩
theorem evt_b {b : Bool} (a : Ev K G H₀ L ss t (.bl b)) : EvT K G H₀ L ss (tB t) b := fun F H σ Q S q => a F H σ _ S fun v F' H' e r => ⟨b, r.of_bl, q _ _ e⟩
theorem evt_not {u : TT} {b : Bool} (a : EvT K G H₀ L ss u b) : EvT K G H₀ L ss (tNot u) (!b) := fun F H σ Q S q => a F H σ _ S fun F' H' e => q _ _ e
theorem evt_and {u v : TT} {b c : Bool} (a : EvT K G H₀ L ss u b) (h : b = true → EvT K G H₀ L ss v c) : EvT K G H₀ L ss (tAnd u v) (b && c) := fun F H σ Q S q => a F H σ _ S fun F' H' e => by
  cases b with
  | false => exact iteF (q _ _ e)
  | true => exact iteT (h rfl _ _ _ _ (S.ext2 e) fun F'' H'' e' => q _ _ (e.trans e'))
theorem evt_or {u v : TT} {b c : Bool} (a : EvT K G H₀ L ss u b) (h : b = false → EvT K G H₀ L ss v c) : EvT K G H₀ L ss (tOr u v) (b || c) := fun F H σ Q S q => a F H σ _ S fun F' H' e => by
  cases b with
  | true => exact iteT (q _ _ e)
  | false => exact iteF (h rfl _ _ _ _ (S.ext2 e) fun F'' H'' e' => q _ _ (e.trans e'))
theorem ev_and {b c : Bool} (a : Ev K G H₀ L ss ta (.bl b)) (h : b = true → Ev K G H₀ L ss tb (.bl c)) : Ev K G H₀ L ss (tAndV ta tb) (.bl (b && c)) := fun F H σ Q S q => a F H σ _ S fun v F' H' e r => by
  refine ⟨b, r.of_bl, ?_⟩
  cases b with
  | false => exact iteF (q _ _ _ e Rep.bl)
  | true => exact iteT (h rfl _ _ _ _ (S.ext2 e) fun v F'' H'' e' r' => q _ _ _ (e.trans e') r')
theorem ev_not {b : Bool} (a : Ev K G H₀ L ss ta (.bl b)) : Ev K G H₀ L ss (tNotV ta) (.bl (!b)) := fun F H σ Q S q => a F H σ _ S fun v F' H' e r => ⟨b, r.of_bl, q _ _ _ e Rep.bl⟩
end
end L2

set_option Elab.async false
set_option linter.all false
set_option maxRecDepth 100000
set_option maxHeartbeats 4000000
namespace L2
open PySem PySem.Spec PyProof.Rows
/-! ### defs by their promises -/
/-- a promise: a frozen thing is told -/
def SpD (K : PySem.W.Frag) (pre : List D → Prop) (res : List D → D) : Sp := fun vs H Q _ => ∃ G ds, Same G H ∧ Reps K G ds vs ∧ pre ds ∧ ∀ v G' H', Ext G H G' H' → Rep K G' (res ds) v → Q v H'
/-- a promise: a new list is told -/
def SpO (K : PySem.W.Frag) (pre : List D → Prop) (res : List D → List D) : Sp := fun vs H Q _ => ∃ G ds, Same G H ∧ Reps K G ds vs ∧ pre ds ∧ ∀ p ws G' H', Ext G H G' H' → H p = none → G' p = none → H' p = some (.lst ws) → Reps K G' (res ds) ws → Q (.ref p) H'
def D.flat : D → Bool
  | .lst _ => false | .tup _ => false | _ => true
theorem Rep.flat {K : PySem.W.Frag} {H H' : Hp} {d : D} {v : V} (f : d.flat = true) (r : Rep K H d v) : Rep K H' d v := by
  cases d with
  | lst _ => cases f
  | tup _ => cases f
  | non => rw [r.of_non]; exact Rep.non
  | bl b => rw [r.of_bl]; exact Rep.bl
  | int i => rw [r.of_int]; exact Rep.int
  | str l => rw [r.of_str]; exact Rep.str r.asc
section
variable {K : PySem.W.Frag} {G H₀ L : Hp} {ss : List Sl} {t : TA} {ds : List D} {pre : List D → Prop} {E : XK}
theorem ev_call {res : List D → D} (a : EvAF K G H₀ L ss t ds) (hp : pre ds) : Ev K G H₀ L ss (tCall (SpD K pre res) [] E t) (res ds) := fun F H σ Q S q =>
  a F H σ _ S fun vs F1 H1 e1 r1 => ⟨F1, ds, e1.fh, by rw [List.append_nil]; exact r1, hp, fun v G' H' e2 r => q _ _ _ (e1.trans e2) r⟩
theorem evo_call {res : List D → List D} (a : EvAF K G H₀ L ss t ds) (hp : pre ds) : EvO K G H₀ L ss (tCall (SpO K pre res) [] E t) (res ds) := fun F H σ Q S q =>
  a F H σ _ S fun vs F1 H1 e1 r1 => ⟨F1, ds, e1.fh, by rw [List.append_nil]; exact r1, hp, fun p ws G' H' e2 h1 h2 h3 r => q _ _ _ _ (e1.trans e2) (e1.hh.free h1) h2 h3 r⟩
end

/-! ### statements -/
section
variable (K : PySem.W.Frag) (G H₀ L : Hp)
def Nx (P : St → Hp → Prop) (ss : List Sl) : Prop := ∀ F H σ, Sat K G H₀ L F H σ ss → P σ H
def Go (E : Ends) (ss : List Sl) (t : TS) : Prop := ∀ F H σ, Sat K G H₀ L F H σ ss → t E σ H
def Tg (g : TG) (d : D) (ss ss' : List Sl) : Prop := ∀ F H σ v (Q : St → Hp → Prop), Sat K G H₀ L F H σ ss → Rep K F d v → (∀ σ' , Sat K G H₀ L F H σ' ss' → Q σ' H) → g v σ H Q
def Tgs (g : TGs) (ds : List D) (ss ss' : List Sl) : Prop := ∀ F H σ vs (Q : St → Hp → Prop), Sat K G H₀ L F H σ ss → Reps K F ds vs → (∀ σ' , Sat K G H₀ L F H σ' ss' → Q σ' H) → g vs σ H Q
/-- some state that the word holds of -/
def At (I : List Sl → Prop) : St → Hp → Prop := fun σ H => ∃ ss F, Sat K G H₀ L F H σ ss ∧ I ss
end
/-- what is wanted of the answer -/
def RtD (K : PySem.W.Frag) (G H₀ : Hp) (rt : VK) (d : D) : Prop := ∀ v F H, Ext G H₀ F H → Rep K F d v → rt v H
def RtO (K : PySem.W.Frag) (G H₀ : Hp) (rt : VK) (ds : List D) : Prop := ∀ p vs F H, Ext G H₀ F H → H₀ p = none → F p = none → H p = some (.lst vs) → Reps K F ds vs → rt (.ref p) H
section
variable {K : PySem.W.Frag} {G H₀ L : Hp} {ss ss' : List Sl} {E : Ends} {t u : TS} {te : TE} {d : D} {ds : List D} {P : St → Hp → Prop}
theorem go_seq (h : Go K G H₀ L { E with nx := u E } ss t) : Go K G H₀ L E ss (tSeq t u) := h
theorem go_set {i : Nat} (a : Ev K G H₀ L ss te d) (h : Nx K G H₀ L E.nx (ss.set i (.d d))) : Go K G H₀ L E ss (tAsg te (gName i)) := fun F H σ S => a F H σ _ S fun v F' H' e r => h F' H' _ ((S.ext2 e).setD r)
theorem Sat.notin {F H : Hp} {σ : St} {p : Addr} (S : Sat K G H₀ L F H σ ss) (hp : H p = none) (j : Nat) (s : Sl) (h : ss[j]? = some s) : p ∉ s.ads := fun z => (S.ok j s h).live z hp
theorem Sat.newO {F H F' H' : Hp} {σ : St} {p : Addr} {vs : List V} {i : Nat} (S : Sat K G H₀ L F H σ ss) (e : Ext F H F' H') (hp : H p = none) (fp : F' p = none) (hp' : H' p = some (.lst vs)) (r : Reps K F' ds vs) : Sat K G H₀ L F' H' (σ.set i (some (.ref p))) (ss.set i (.o p ds)) :=
  (S.ext2 e).setO ⟨S.ext.hh.free hp, fp, vs, hp', r⟩ fun j s _ h => S.notin hp j s h
theorem go_setO {i : Nat} (a : EvO K G H₀ L ss te ds) (h : ∀ p, Nx K G H₀ L E.nx (ss.set i (.o p ds))) : Go K G H₀ L E ss (tAsg te (gName i)) := fun F H σ S => a F H σ _ S fun p vs F' H' e hp fp hp' r => h p F' H' _ (S.newO e hp fp hp' r)
theorem go_if {c : TT} {b : Bool} (a : EvT K G H₀ L ss c b) (h1 : b = true → Go K G H₀ L E ss t) (h2 : b = false → Go K G H₀ L E ss u) : Go K G H₀ L E ss (tIfS c t u) := fun F H σ S => a F H σ _ S fun F' H' e => by
  cases b with
  | true => exact iteT (h1 rfl F' H' σ (S.ext2 e))
  | false => exact iteF (h2 rfl F' H' σ (S.ext2 e))
theorem go_next (h : Nx K G H₀ L E.nx ss) : Go K G H₀ L E ss tNext := h
theorem go_ret (a : Ev K G H₀ L ss te d) (h : RtD K G H₀ E.rt d) : Go K G H₀ L E ss (tRet te) := fun F H σ S => a F H σ _ S fun v F' H' e r => h v F' H' (S.ext.trans e) r
theorem go_retO (a : EvO K G H₀ L ss te ds) (h : RtO K G H₀ E.rt ds) : Go K G H₀ L E ss (tRet te) := fun F H σ S => a F H σ _ S fun p vs F' H' e hp fp hp' r => h p vs F' H' (S.ext.trans e) (S.ext.hh.free hp) fp hp' r
theorem nx_freeze {i : Nat} {p : Addr} (hs : ss[i]? = some (.o p ds)) (h : Nx K G H₀ L P (ss.set i (.d (.lst ds)))) : Nx K G H₀ L P ss := fun F H σ S => by
  obtain ⟨F', S'⟩ := S.freeze hs
  exact h F' H σ S'
theorem nx_go (h : Go K G H₀ L E ss t) : Nx K G H₀ L (t E) ss := h
theorem nx_at {I : List Sl → Prop} (h : I ss) : Nx K G H₀ L (At K G H₀ L I) ss := fun F H σ S => ⟨ss, F, S, h⟩
/-- what holds where ways meet -/
theorem go_join (I : List Sl → Prop) (h1 : ∀ N : St → Hp → Prop, (∀ ss, I ss → Nx K G H₀ L N ss) → Go K G H₀ L { E with nx := N } ss t) (h2 : ∀ ss, I ss → Go K G H₀ L E ss u) : Go K G H₀ L E ss (tSeq t u) := h1 _ h2
/-! targets -/
theorem tg_name {i : Nat} : Tg K G H₀ L (gName i) d ss (ss.set i (.d d)) := fun F H σ v Q S r q => q _ (S.setD r)
theorem tgs_nil : Tgs K G H₀ L gNil [] ss ss := fun F H σ vs Q S r q => by
  rw [Reps] at r
  exact ⟨r, q _ S⟩
theorem tgs_cons {g : TG} {gs : TGs} {ss1 ss2 : List Sl} (a : Tg K G H₀ L g d ss ss1) (b : Tgs K G H₀ L gs ds ss1 ss2) : Tgs K G H₀ L (gCons g gs) (d :: ds) ss ss2 := fun F H σ vs Q S r q => by
  rw [Reps] at r
  obtain ⟨x, xs, rfl, r1, r2⟩ := r
  exact ⟨x, xs, rfl, a F H σ x _ S r1 fun σ' S' => b F H σ' xs _ S' r2 q⟩
theorem tg_tup {g : TGs} {n : Nat} (hn : ds.length = n) (a : Tgs K G H₀ L g ds ss ss') : Tg K G H₀ L (gTup K n g) (.tup ds) ss ss' := fun F H σ v Q S r q => by
  obtain ⟨p, xs, rfl, sq, rs⟩ := r.of_tup
  exact ⟨p, xs, rfl, SqT.same S.ext.fh sq, by rw [← rs.length]; exact hn, a F H σ xs _ S rs q⟩
/-! lists of ours are changed -/
theorem go_append {i : Nat} {p : Addr} {t1 : TE} (hs : ss[i]? = some (.o p ds)) (a : Ev K G H₀ L ss t1 d) (hz : ds.length < sizeLine) (h : Nx K G H₀ L E.nx (ss.set i (.o p (ds ++ [d])))) :
    Go K G H₀ L E ss (tDrop (tBM K "list" rAppend (tVar i) (tCons t1 tNil))) := fun F H σ S => by
  obtain ⟨e, h0, fp, vs, hp, r⟩ := S.getO hs
  refine ⟨.ref p, e, .inl ⟨rfl, _, SqL.of hp⟩, a F H σ _ S fun v F' H' e' r' => ?_⟩
  have S' := S.ext2 e'
  obtain ⟨e2, h02, fp2, vs', hp2, r2⟩ := S'.getO hs
  exact ⟨p, vs', v, rfl, rfl, hp2, by rw [← r2.length]; exact hz, h F' _ σ (S'.write hs (r2.snoc r'))⟩
/-! loops -/
theorem Rep.itl {F H : Hp} {p : Addr} (h : Same F H) (r : Rep K F (.lst ds) (.ref p)) : ∃ vs, SqL K H p vs ∧ Reps K F ds vs := by
  obtain ⟨q, xs, e, sq, rs⟩ := r.of_lst
  cases e
  exact ⟨xs, SqL.same h sq, rs⟩
/-- over a frozen (or a new) list -/
theorem go_for {tl : TE} {g : TG} {tb : TS} {α : Type} (enc : α → D) (xs : List α) (I : Nat → List Sl → Prop) (a : Ev K G H₀ L ss tl (.lst (xs.map enc))) (h0 : I 0 ss)
    (hs : ∀ L' k x ss, Same L L' → xs[k]? = some x → I k ss → ∃ ss', Tg K G H₀ L' g (enc x) ss ss' ∧ ∀ N, (∀ ss, I (k + 1) ss → Nx K G H₀ L' N ss) → Go K G H₀ L' { E with nx := N, ct := N, bk := E.nx } ss' tb)
    (hd : ∀ ss, I xs.length ss → Nx K G H₀ L E.nx ss) : Go K G H₀ L E ss (tFor (iList K tl) g tb) := fun F H σ S =>
  a F H σ _ S fun v F1 H1 e1 r1 => by
    obtain ⟨p, vs, rfl, sq, rs⟩ := r1.of_lst
    refine ⟨p, rfl, ⟨vs, SqL.same e1.fh sq⟩, ?_⟩
    refine ⟨fun i m σ' H' => m = xs.length - i ∧ i ≤ xs.length ∧ At K G H₀ F1 (I i) σ' H', ⟨_, rfl, Nat.zero_le _, ss, F1, (S.ext2 e1).raise, h0⟩, ?_⟩
    rintro i m σ' H' ⟨rfl, hi, ss1, F2, S2, h2⟩
    have rp : Rep K F2 (.lst (xs.map enc)) (.ref p) := r1.mono S2.fl
    obtain ⟨ws, sq2, rs2⟩ := rp.itl S2.ext.fh
    have hlen : ws.length = xs.length := by rw [← rs2.length, List.length_map]
    by_cases hlt : i < xs.length
    · refine .inr ⟨⟨ws, ws[i]'(by omega), sq2, List.getElem?_eq_getElem _⟩, fun σ'' H'' => At K G H₀ F1 (I (i + 1)) σ'' H'', fun σ'' H'' h => ⟨xs.length - (i + 1), by omega, rfl, hlt, h⟩, fun x H'' y => ?_⟩
      obtain ⟨rfl, y⟩ := y
      have hx := y ws sq2
      obtain ⟨dx, hdx, rx⟩ := rs2.get hx
      rw [List.getElem?_map, List.getElem?_eq_getElem hlt] at hdx
      cases hdx
      obtain ⟨ss', tg, go⟩ := hs F1 i _ ss1 (S.fl.trans e1.gf) (List.getElem?_eq_getElem hlt) h2
      exact tg F2 _ σ' x _ S2 rx fun σ3 S3 => go _ (fun ss h => nx_at h) F2 _ σ3 S3
    · have e : i = xs.length := by omega
      subst e
      exact .inl ⟨⟨ws, sq2, by omega⟩, hd ss1 h2 F2 H' σ' (S2.lower (S.fl.trans e1.gf))⟩
/-- over range(n) -/
theorem go_range {ta : TA} {j : Nat} {tb : TS} {n : Int} (I : Nat → List Sl → Prop) (a : EvA K G H₀ L ss ta [.int n]) (hb : -(2 ^ 62) ≤ n ∧ n < 2 ^ 62) (h0 : I 0 ss)
    (hs : ∀ (k : Nat) ss, (k : Int) < n → I k ss → ∀ N, (∀ ss, I (k + 1) ss → Nx K G H₀ L N ss) → Go K G H₀ L { E with nx := N, ct := N, bk := E.nx } (ss.set j (.d (.int (k : Int)))) tb)
    (hd : ∀ ss, I n.toNat ss → Nx K G H₀ L E.nx ss) {ti : TI} (hti : ∀ σ H R, (ta σ H fun vs H1 => ∃ m : Int, vs = [.int m] ∧ -(2 ^ 62) ≤ m ∧ m < 2 ^ 62 ∧ R (Itr 0 m.toNat) H1) → ti σ H R) : Go K G H₀ L E ss (tFor ti (gName j) tb) := fun F H σ S => by
  refine hti σ H _ (a F H σ _ S fun vs F1 H1 e1 r1 => ?_)
  rw [Reps] at r1
  obtain ⟨x, r, rfl, rx, r1⟩ := r1
  rw [Reps] at r1
  subst r1
  rw [rx.of_int]
  refine ⟨n, rfl, hb.1, hb.2, fun i m σ' H' => m = n.toNat - i ∧ i ≤ n.toNat ∧ At K G H₀ L (I i) σ' H', ⟨_, rfl, Nat.zero_le _, ss, F1, S.ext2 e1, h0⟩, ?_⟩
  rintro i m σ' H' ⟨rfl, hi, ss1, F2, S2, h2⟩
  by_cases hlt : i < n.toNat
  · refine .inr ⟨hlt, fun σ'' H'' => At K G H₀ L (I (i + 1)) σ'' H'', fun σ'' H'' h => ⟨n.toNat - (i + 1), by omega, rfl, hlt, h⟩, fun x H'' y => ?_⟩
    obtain ⟨rfl, rfl⟩ := y
    refine hs i ss1 (by omega) h2 _ (fun ss h => nx_at h) F2 _ _ ?_
    have e : (0 : Int) + (i : Int) = (i : Int) := by omega
    rw [e]
    exact S2.setD Rep.int
  · have e : i = n.toNat := by omega
    subst e
    exact .inl ⟨Nat.le_refl _, hd ss1 h2 F2 H' σ' S2⟩
end
end L2

set_option Elab.async false
set_option linter.all false
set_option maxRecDepth 100000
set_option maxHeartbeats 4000000
/-! whole data compared -/
namespace L2
open PySem PySem.Spec PyProof.Rows
mutual
def D.toP : D → PyData
  | .non => .none
  | .bl b => .bool b
  | .int i => .int i
  | .str l => .str (T l)
  | .lst a => .list (D.toPs a)
  | .tup a => .tuple (D.toPs a)
def D.toPs : List D → List PyData
  | [] => []
  | a :: x => a.toP :: D.toPs x
end
mutual
theorem D.toP_depth : ∀ d : D, d.toP.depth = d.dep
  | .non => rfl
  | .bl _ => rfl
  | .int _ => rfl
  | .str _ => rfl
  | .lst a => by simp [D.toP, PyData.depth, D.dep, D.toPs_depth a]
  | .tup a => by simp [D.toP, PyData.depth, D.dep, D.toPs_depth a]
theorem D.toPs_depth : ∀ a : List D, PyData.depthAll (D.toPs a) = D.deps a
  | [] => rfl
  | d :: a => by simp [D.toPs, PyData.depthAll, D.deps, D.toP_depth d, D.toPs_depth a]
end
mutual
theorem D.eqv : ∀ d e : D, d.nb = true → e.nb = true → PyData.eqv d.toP e.toP = decide (d = e)
  | .non, e, _, h2 => by cases e <;> simp [D.toP, PyData.eqv, D.nb] at h2 ⊢
  | .bl _, _, h1, _ => by simp [D.nb] at h1
  | .int i, e, _, h2 => by
    cases e <;> simp [D.toP, PyData.eqv, D.nb] at h2 ⊢
    exact Bool.beq_eq_decide_eq _ _
  | .str l, e, _, h2 => by
    cases e <;> simp [D.toP, PyData.eqv, D.nb] at h2 ⊢
    rename_i m
    rw [Bool.eq_iff_iff]; simp [T_inj]
  | .lst a, e, h1, h2 => by
    cases e with
    | lst b =>
      simp only [D.nb] at h1 h2
      simp only [D.toP, PyData.eqv, D.lst.injEq]
      exact D.eqvs a b h1 h2
    | _ => simp [D.toP, PyData.eqv, D.nb] at h2 ⊢
  | .tup a, e, h1, h2 => by
    cases e with
    | tup b =>
      simp only [D.nb] at h1 h2
      simp only [D.toP, PyData.eqv, D.tup.injEq]
      exact D.eqvs a b h1 h2
    | _ => simp [D.toP, PyData.eqv, D.nb] at h2 ⊢
theorem D.eqvs : ∀ a b : List D, D.nbs a = true → D.nbs b = true → PyData.eqvAll (D.toPs a) (D.toPs b) = decide (a = b)
  | [], b, _, _ => by cases b <;> simp [D.toPs, PyData.eqvAll]
  | d :: a, b, h1, h2 => by
    cases b with
    | nil => simp [D.toPs, PyData.eqvAll]
    | cons e b =>
      simp only [D.nbs, Bool.and_eq_true] at h1 h2
      simp only [D.toPs, PyData.eqvAll, D.eqv d e h1.1 h2.1, D.eqvs a b h1.2 h2.2, List.cons.injEq]
      by_cases x : d = e <;> by_cases y : a = b <;> simp [x, y]
end
section
variable {X : Cx} {pins : List (Addr × Obj)} {σ : St} {H : Hp} {s : Shared}
theorem strOk_T {l : List Nat} (h : ∀ c ∈ l, c < 128) : PyData.strOk (T l) = true := by
  unfold PyData.strOk T
  simp
  intro c hc
  have := h c hc
  omega
mutual
theorem Inv.reads (I : Inv X pins σ H s) : ∀ {d : D} {v : V} {u : Value}, Rep X.K H d v → RelV v u → (∃ as, Reads s.heap u d.toP as) ∧ d.toP.canLay0 = true
  | .non, _, _, r, q => by rw [r.of_non] at q; cases q; exact ⟨⟨_, Reads.none⟩, rfl⟩
  | .bl b, _, _, r, q => by rw [r.of_bl] at q; cases q; exact ⟨⟨_, Reads.bool b⟩, rfl⟩
  | .int i, _, _, r, q => by rw [r.of_int] at q; obtain ⟨t, rfl⟩ := q; exact ⟨⟨_, Reads.int i t⟩, rfl⟩
  | .str l, _, _, r, q => by
    have ha := r.asc
    rw [r.of_str] at q; obtain ⟨t, rfl⟩ := q
    exact ⟨⟨_, Reads.str _ t⟩, strOk_T ha⟩
  | .lst ds, _, _, r, q => by
    obtain ⟨p, xs, rfl, sq, rs⟩ := r.of_lst
    cases q
    obtain ⟨its, rv, ⟨o, n, e, c, _, hd⟩, _⟩ := I.list sq
    obtain ⟨⟨as, ra⟩, hc⟩ := I.readsAll rs rv
    exact ⟨⟨_, Reads.list e c hd (by simpa using ra)⟩, by simpa [D.toP, PyData.canLay0] using hc⟩
  | .tup ds, _, _, r, q => by
    obtain ⟨p, xs, rfl, sq, rs⟩ := r.of_tup
    cases q
    obtain ⟨its, rv, ⟨o, e, c, n, hd⟩, _⟩ := I.tuple sq
    obtain ⟨⟨as, ra⟩, hc⟩ := I.readsAll rs rv
    exact ⟨⟨_, Reads.tuple e c hd (by simpa using ra)⟩, by simpa [D.toP, PyData.canLay0] using hc⟩
theorem Inv.readsAll (I : Inv X pins σ H s) : ∀ {ds : List D} {vs : List V} {us : List Value}, Reps X.K H ds vs → Vals vs us → (∃ as, ReadsAll s.heap us (D.toPs ds) as) ∧ PyData.canLayAll0 (D.toPs ds) = true
  | [], _, _, r, q => by
    rw [Reps] at r; subst r
    cases q
    exact ⟨⟨_, ReadsAll.nil⟩, rfl⟩
  | d :: ds, _, _, r, q => by
    rw [Reps] at r
    obtain ⟨x, xs, rfl, r1, r2⟩ := r
    cases q with
    | cons q1 q2 =>
      obtain ⟨⟨as, a⟩, hc⟩ := I.reads r1 q1
      obtain ⟨⟨bs, b⟩, hc2⟩ := I.readsAll r2 q2
      exact ⟨⟨_, ReadsAll.cons a b⟩, by simp [D.toPs, PyData.canLayAll0, hc, hc2]⟩
end
end
/-- a == b, a != b of whole data without truths -/
def rEqD (K : PySem.W.Frag) : R2 := fun x y H Q => ∃ d e, Rep K H d x ∧ Rep K H e y ∧ d.nb = true ∧ e.nb = true ∧ d.dep ≤ 60 ∧ Q (.bl (decide (d = e))) H
def rNeD (K : PySem.W.Frag) : R2 := fun x y H Q => ∃ d e, Rep K H d x ∧ Rep K H e y ∧ d.nb = true ∧ e.nb = true ∧ d.dep ≤ 60 ∧ Q (.bl (!decide (d = e))) H
section
variable {X : Cx}
theorem op_eqD (hu : X.A.units + 64 < cLine) : OpR X (compareOp .Eq) (rEqD X.K) := by
  intro pins s σ H x y v u Q I rx ry h
  obtain ⟨d, e, r1, r2, n1, n2, hd, q⟩ := h
  obtain ⟨⟨as, a⟩, c1⟩ := I.reads r1 rx
  obtain ⟨⟨bs, b⟩, c2⟩ := I.reads r2 ry
  have h1 := D.toP_depth d
  refine SeqAt.compareEq_reads a b c1 c2 (by omega) ?_
  rw [D.eqv d e n1 n2]
  exact ⟨.bl _, H, I, rfl, q⟩
theorem op_neD (hu : X.A.units + 64 < cLine) : OpR X (compareOp .NotEq) (rNeD X.K) := by
  intro pins s σ H x y v u Q I rx ry h
  obtain ⟨d, e, r1, r2, n1, n2, hd, q⟩ := h
  obtain ⟨⟨as, a⟩, c1⟩ := I.reads r1 rx
  obtain ⟨⟨bs, b⟩, c2⟩ := I.reads r2 ry
  have h1 := D.toP_depth d
  refine SeqAt.compareNe_reads a b c1 c2 (by omega) ?_
  rw [D.eqv d e n1 n2]
  exact ⟨.bl _, H, I, rfl, q⟩
theorem any_toPs (d : D) (hd : d.nb = true) : ∀ ds : List D, D.nbs ds = true → ((D.toPs ds).any fun y => PyData.eqv y d.toP) = decide (d ∈ ds)
  | [], _ => by simp [D.toPs]
  | e :: ds, h => by
    simp only [D.nbs, Bool.and_eq_true] at h
    rw [D.toPs, List.any_cons, any_toPs d hd ds h.2, D.eqv e d h.1 hd]
    by_cases x : e = d
    · subst x; simp
    · have : ¬ d = e := fun z => x z.symm
      simp [x, this]
/-- x in a list, a tuple -/
def rInD (K : PySem.W.Frag) (neg : Bool) : R2 := fun x y H Q => ∃ d ds, Rep K H d x ∧ (Rep K H (.lst ds) y ∨ Rep K H (.tup ds) y) ∧ d.nb = true ∧ D.nbs ds = true ∧ d.dep ≤ 60 ∧ Q (.bl (if neg then !decide (d ∈ ds) else decide (d ∈ ds))) H
theorem op_inD (hu : X.A.units + 64 < cLine) : OpR X (compareOp .In) (rInD X.K false) := by
  intro pins s σ H x y v u Q I rx ry h
  obtain ⟨d, ds, r1, r2, n1, n2, hd, q⟩ := h
  obtain ⟨⟨as, a⟩, c1⟩ := I.reads r1 rx
  have h1 := D.toP_depth d
  have fin : EP X pins σ Q (.bool ((D.toPs ds).any fun y => PyData.eqv y d.toP)) s := by rw [any_toPs d n1 ds n2]; exact ⟨.bl _, H, I, rfl, q⟩
  rcases r2 with r2 | r2
  · obtain ⟨⟨bs, b⟩, c2⟩ := I.reads r2 ry
    rw [D.toP] at b c2
    exact SeqAt.in_list_reads b a (by simpa [PyData.canLay0] using c2) c1 (by omega) fin
  · obtain ⟨⟨bs, b⟩, c2⟩ := I.reads r2 ry
    rw [D.toP] at b c2
    exact SeqAt.in_tuple_reads b a (by simpa [PyData.canLay0] using c2) c1 (by omega) fin
theorem op_notInD (hu : X.A.units + 64 < cLine) : OpR X (compareOp .NotIn) (rInD X.K true) := by
  intro pins s σ H x y v u Q I rx ry h
  obtain ⟨d, ds, r1, r2, n1, n2, hd, q⟩ := h
  obtain ⟨⟨as, a⟩, c1⟩ := I.reads r1 rx
  have h1 := D.toP_depth d
  have fin : EP X pins σ Q (.bool (!(D.toPs ds).any fun y => PyData.eqv y d.toP)) s := by rw [any_toPs d n1 ds n2]; exact ⟨.bl _, H, I, rfl, q⟩
  rcases r2 with r2 | r2
  · obtain ⟨⟨bs, b⟩, c2⟩ := I.reads r2 ry
    rw [D.toP] at b c2
    exact SeqAt.notIn_list_reads b a (by simpa [PyData.canLay0] using c2) c1 (by omega) fin
  · obtain ⟨⟨bs, b⟩, c2⟩ := I.reads r2 ry
    rw [D.toP] at b c2
    exact SeqAt.notIn_tuple_reads b a (by simpa [PyData.canLay0] using c2) c1 (by omega) fin
end
section
variable {K : PySem.W.Frag} {G H₀ L : Hp} {ss : List Sl} {t ta tb : TE} {d d1 d2 : D} {ds es : List D}
theorem ev_eqD (a : EvB K G H₀ L ss ta d1) (b : EvB K G H₀ L ss tb d2) (n1 : d1.nb = true) (n2 : d2.nb = true) (hd : d1.dep ≤ 60) : Ev K G H₀ L ss (tOp (rEqD K) ta tb) (.bl (decide (d1 = d2))) :=
  ev_op2 (w := .bl (decide (d1 = d2))) a b (fun H x y Q r1 r2 q => ⟨d1, d2, r1, r2, n1, n2, hd, q⟩) fun _ _ _ _ _ _ => Rep.bl
theorem ev_neD (a : EvB K G H₀ L ss ta d1) (b : EvB K G H₀ L ss tb d2) (n1 : d1.nb = true) (n2 : d2.nb = true) (hd : d1.dep ≤ 60) : Ev K G H₀ L ss (tOp (rNeD K) ta tb) (.bl (!decide (d1 = d2))) :=
  ev_op2 (w := .bl (!decide (d1 = d2))) a b (fun H x y Q r1 r2 q => ⟨d1, d2, r1, r2, n1, n2, hd, q⟩) fun _ _ _ _ _ _ => Rep.bl
theorem ev_inD (a : EvB K G H₀ L ss ta d) (b : EvB K G H₀ L ss tb (.lst ds)) (n1 : d.nb = true) (n2 : D.nbs ds = true) (hd : d.dep ≤ 60) : Ev K G H₀ L ss (tOp (rInD K false) ta tb) (.bl (decide (d ∈ ds))) :=
  ev_op2 (w := .bl (decide (d ∈ ds))) a b (fun H x y Q r1 r2 q => ⟨d, ds, r1, .inl r2, n1, n2, hd, q⟩) fun _ _ _ _ _ _ => Rep.bl
theorem ev_notInD (a : EvB K G H₀ L ss ta d) (b : EvB K G H₀ L ss tb (.lst ds)) (n1 : d.nb = true) (n2 : D.nbs ds = true) (hd : d.dep ≤ 60) : Ev K G H₀ L ss (tOp (rInD K true) ta tb) (.bl (!decide (d ∈ ds))) :=
  ev_op2 (w := .bl (!decide (d ∈ ds))) a b (fun H x y Q r1 r2 q => ⟨d, ds, r1, .inl r2, n1, n2, hd, q⟩) fun _ _ _ _ _ _ => Rep.bl
end
/-! data of many alike things -/
theorem D.nbs_map {α : Type} {enc : α → D} (h : ∀ x, (enc x).nb = true) : ∀ xs : List α, D.nbs (xs.map enc) = true
  | [] => rfl
  | x :: xs => by simp [D.nbs, h x, D.nbs_map h xs]
theorem D.deps_map {α : Type} {enc : α → D} {n : Nat} (h : ∀ x, (enc x).dep ≤ n) : ∀ xs : List α, D.deps (xs.map enc) ≤ n
  | [] => Nat.zero_le _
  | x :: xs => by
    have h1 := h x
    have h2 := D.deps_map h xs
    simp only [List.map_cons, D.deps]; omega
theorem D.nb_lst {ds : List D} : (D.lst ds).nb = D.nbs ds := by rw [D.nb]
theorem D.dep_lst {ds : List D} : (D.lst ds).dep = D.deps ds + 1 := by rw [D.dep]
end L2

set_option Elab.async false
set_option linter.all false
set_option maxRecDepth 100000
set_option maxHeartbeats 4000000
/-! comprehensions -/
namespace L2
open PySem PySem.Spec PyProof.Rows
/-- what a source hands out: n things, y -/
def ItOk (K : PySem.W.Frag) (J : It) (F' H' : Hp) (n : Nat) (y : Nat → D) : Prop := ∀ F2 H2, Same F' F2 → Same H' H2 → Same F2 H2 →
  (∀ i, i < n → J.go i H2 ∧ ∀ x H3, J.yld i H2 x H3 → ∃ F3, Ext F2 H2 F3 H3 ∧ Rep K F3 (y i) x) ∧ J.stop n H2
def EvI (K : PySem.W.Frag) (G H₀ L : Hp) (ss : List Sl) (wi : TI) (n : Nat) (y : Nat → D) : Prop := ∀ F H σ R, Sat K G H₀ L F H σ ss → (∀ F' H' J, Ext F H F' H' → ItOk K J F' H' n y → R J H') → wi σ H R
section
variable {K : PySem.W.Frag} {G H₀ L : Hp} {ss : List Sl}
theorem evi_list {tl : TE} {ds : List D} (a : EvL K G H₀ L ss tl ds) : EvI K G H₀ L ss (iList K tl) ds.length fun i => ds.getD i .non := fun F H σ R S q =>
  a F H σ _ S fun p vs F' H' e sq r => ⟨p, rfl, ⟨vs, sq⟩, q F' H' _ e fun F2 H2 f1 h1 fh => by
    have sq2 := SqL.same h1 sq
    have hl := r.length
    refine ⟨fun i hi => ⟨⟨vs, vs[i]'(by omega), sq2, List.getElem?_eq_getElem _⟩, fun x H3 y => ?_⟩, ⟨vs, sq2, by omega⟩⟩
    obtain ⟨rfl, y⟩ := y
    obtain ⟨d, hd, rd⟩ := r.get (y vs sq2)
    refine ⟨F2, Ext.refl fh, ?_⟩
    show Rep K F2 (ds.getD i D.non) x
    rw [List.getD_eq_getElem?_getD, hd]
    exact rd.mono f1⟩
/-- the slots within the block -/
def lcSl (nt : Nat) (cs : List Nat) (ss : List Sl) : List Sl := List.replicate nt .un ++ cs.map fun i => ss.getD i .un
theorem Sat.lc {F H : Hp} {σ : St} {nt : Nat} {cs : List Nat} (S : Sat K G H₀ L F H σ ss) (hc : cs.Nodup) : Sat K G H₀ L F H (lcS nt cs σ) (lcSl nt cs ss) := by
  have cut : ∀ (i : Nat) s, (lcSl nt cs ss)[i]? = some s → s = .un ∨ ∃ j, nt ≤ i ∧ cs[i - nt]? = some j ∧ ss[j]? = some s := by
    intro i s h
    unfold lcSl at h
    by_cases hi : i < nt
    · rw [List.getElem?_append_left (by simpa using hi), List.getElem?_replicate, if_pos hi] at h
      exact .inl (Option.some.inj h).symm
    · rw [List.getElem?_append_right (by simpa using hi), List.length_replicate, List.getElem?_map] at h
      cases hj : cs[i - nt]? with
      | none => rw [hj] at h; cases h
      | some j =>
        rw [hj] at h
        have h : ss.getD j .un = s := Option.some.inj h
        rw [List.getD_eq_getElem?_getD] at h
        cases hs : ss[j]? with
        | none => rw [hs] at h; exact .inl h.symm
        | some s' => rw [hs] at h; exact .inr ⟨j, by omega, rfl, by rw [hs]; exact congrArg some h⟩
  have val : ∀ (i j : Nat), nt ≤ i → cs[i - nt]? = some j → (lcS nt cs σ).getD i none = σ.getD j none := by
    intro i j hi hj
    unfold lcS
    rw [List.getD_eq_getElem?_getD, List.getElem?_append_right (by simpa using hi), List.length_replicate, List.getElem?_map, hj]
    simp [List.getD_eq_getElem?_getD]
  refine ⟨S.ext, S.fl, by unfold lcS lcSl; simp, fun i s h => ?_, fun i s h => ?_, fun i j s s' hij h h' p hp => ?_⟩
  · rcases cut i s h with rfl | ⟨j, hi, hj, hs⟩
    · trivial
    · rw [val i j hi hj]; exact S.ok j s hs
  · rcases cut i s h with rfl | ⟨j, hi, hj, hs⟩
    · simp [Sl.ads]
    · exact S.nd j s hs
  · rcases cut i s h with rfl | ⟨k, hi, hk, hs⟩
    · simp [Sl.ads] at hp
    · rcases cut j s' h' with rfl | ⟨m, hj, hm, hs'⟩
      · simp [Sl.ads]
      · have : k ≠ m := fun z => by
          subst z
          obtain ⟨l1, e1⟩ := List.getElem?_eq_some_iff.mp hk
          obtain ⟨l2, e2⟩ := List.getElem?_eq_some_iff.mp hm
          have := (List.getElem_inj hc).mp (e1.trans e2.symm)
          omega
        exact S.ne k m s s' this hs hs' p hp
/-- the target stores into the first nt slots alone -/
def GK (nt : Nat) (g : TG) : Prop := ∀ v σ H (Q Q' : St → Hp → Prop), (∀ σ' H', Q σ' H' → σ'.length = σ.length → σ'.drop nt = σ.drop nt → Q' σ' H') → g v σ H Q → g v σ H Q'
def GKs (nt : Nat) (g : TGs) : Prop := ∀ v σ H (Q Q' : St → Hp → Prop), (∀ σ' H', Q σ' H' → σ'.length = σ.length → σ'.drop nt = σ.drop nt → Q' σ' H') → g v σ H Q → g v σ H Q'
theorem gk_name {nt i : Nat} (h : i < nt) : GK nt (gName i) := fun v σ H Q Q' f q => f _ _ q (by simp) (by rw [List.drop_set_of_lt h])
theorem gks_nil {nt : Nat} : GKs nt gNil := fun v σ H Q Q' f q => ⟨q.1, f _ _ q.2 rfl rfl⟩
theorem gks_cons {nt : Nat} {g : TG} {gs : TGs} (a : GK nt g) (b : GKs nt gs) : GKs nt (gCons g gs) := fun vs σ H Q Q' f q => by
  obtain ⟨v, r, e, q⟩ := q
  exact ⟨v, r, e, a v σ H _ _ (fun σ' H' q1 l1 d1 => b r σ' H' Q Q' (fun σ'' H'' q2 l2 d2 => f _ _ q2 (l2.trans l1) (d2.trans d1)) q1) q⟩
theorem gk_tup {nt n : Nat} {gs : TGs} (b : GKs nt gs) : GK nt (gTup K n gs) := fun v σ H Q Q' f q => by
  obtain ⟨a, xs, e, sq, hn, q⟩ := q
  exact ⟨a, xs, e, sq, hn, b xs σ H Q Q' f q⟩

theorem evo_lcI {wi : TI} {g : TG} {tt : TT} {te : TE} {nt : Nat} {cs : List Nat} {n : Nat} {y : Nat → D} (p : Nat → Bool) (f : Nat → D) (a : EvI K G H₀ L ss wi n y) (hk : GK nt g) (hc : cs.Nodup) (hz : n < sizeLine)
    (hs : ∀ i, i < n → ∃ ss', Tg K G H₀ L g (y i) (lcSl nt cs ss) ss' ∧ EvT K G H₀ L ss' tt (p i) ∧ (p i = true → Ev K G H₀ L ss' te (f i))) :
    EvO K G H₀ L ss (tLC nt cs wi g tt te) (((List.range n).filter p).map f) := fun F H σ Q S q =>
  a F H σ _ S fun F1 H1 J e1 it => by
    intro l hl
    have S1 := S.ext2 e1
    refine ⟨fun i m H2 => m = n - i ∧ i ≤ n ∧ ∃ F2 vs, Ext F1 H1 F2 H2 ∧ F2 l = none ∧ H2 l = some (.lst vs) ∧ Reps K F2 (((List.range i).filter p).map f) vs ∧ vs.length ≤ i,
      ⟨n, by omega, Nat.zero_le _, F1, [], (Ext.refl e1.fh).newO hl, e1.fh.free hl, upd_same, Reps.nil, Nat.le_refl _⟩, ?_⟩
    rintro i m H2 ⟨rfl, hi, F2, vs, e2, fl, hl2, rs, hvs⟩
    obtain ⟨it1, it2⟩ := it F2 H2 e2.gf e2.hh e2.fh
    by_cases hlt : i < n
    · obtain ⟨go, yl⟩ := it1 i hlt
      refine .inr ⟨go, fun H' => ∃ F2 vs, Ext F1 H1 F2 H' ∧ F2 l = none ∧ H' l = some (.lst vs) ∧ Reps K F2 (((List.range (i + 1)).filter p).map f) vs ∧ vs.length ≤ i + 1, fun H' h => ⟨n - (i + 1), by omega, rfl, hlt, h⟩, fun x H3 yx => ?_⟩
      obtain ⟨F3, e3, rx⟩ := yl x H3 yx
      obtain ⟨ss', tg, evt, ev⟩ := hs i hlt
      have S3 := ((S1.ext2 e2).ext2 e3).lc (nt := nt) hc
      have hl3 : H3 l = some (.lst vs) := e3.hh l _ hl2
      have fl3 : F3 l = none := (e3.no l _ hl2).trans fl
      have base := tg F3 H3 (lcS nt cs σ) x (fun σ2 H4 => H4 = H3 ∧ Sat K G H₀ L F3 H3 σ2 ss') S3 rx fun σ' S' => ⟨rfl, S'⟩
      have fin : ∀ σ2, Sat K G H₀ L F3 H3 σ2 ss' → tt σ2 H3 fun b H5 => if b = true then te σ2 H5 fun y H6 => ∃ xs, H6 l = some (.lst xs) ∧ xs.length < sizeLine ∧ (∃ F2 vs, Ext F1 H1 F2 (upd H6 l (.lst (xs ++ [y]))) ∧ F2 l = none ∧ (upd H6 l (.lst (xs ++ [y]))) l = some (.lst vs) ∧ Reps K F2 (((List.range (i + 1)).filter p).map f) vs ∧ vs.length ≤ i + 1) else ∃ F2 vs, Ext F1 H1 F2 H5 ∧ F2 l = none ∧ H5 l = some (.lst vs) ∧ Reps K F2 (((List.range (i + 1)).filter p).map f) vs ∧ vs.length ≤ i + 1 := fun σ2 S2 => by
        refine evt F3 H3 σ2 _ S2 fun F5 H5 e5 => ?_
        have S5 := S2.ext2 e5
        have hl5 : H5 l = some (.lst vs) := e5.hh l _ hl3
        have fl5 : F5 l = none := (e5.no l _ hl3).trans fl3
        have gf : Same F2 F5 := e3.gf.trans e5.gf
        cases hp : p i with
        | false =>
          refine iteF ⟨F5, vs, (e2.trans e3).trans e5, fl5, hl5, ?_, by omega⟩
          rw [List.range_succ, List.filter_append, List.filter_cons, hp]
          simpa using rs.mono gf
        | true =>
          refine iteT (ev hp F5 H5 σ2 _ S5 fun v F6 H6 e6 rv => ?_)
          have hl6 : H6 l = some (.lst vs) := e6.hh l _ hl5
          have fl6 : F6 l = none := (e6.no l _ hl5).trans fl5
          refine ⟨vs, hl6, by omega, F6, vs ++ [v], (((e2.trans e3).trans e5).trans e6).write fl6 hl, fl6, upd_same, ?_, by simp; omega⟩
          rw [List.range_succ, List.filter_append, List.filter_cons, hp, if_pos rfl, List.map_append]
          exact (rs.mono (gf.trans e6.gf)).snoc rv
      refine hk x (lcS nt cs σ) H3 _ _ (fun σ2 H4 h l1 d1 => ?_) base
      obtain ⟨rfl, S2⟩ := h
      exact ⟨⟨by rw [l1]; unfold lcS; simp, d1⟩, fin σ2 S2⟩
    · have e : i = n := by omega
      subst e
      exact .inl ⟨it2, q l vs F2 H2 (e1.trans e2) (e1.hh.free hl) fl hl2 rs⟩
end
end L2

set_option Elab.async false
set_option linter.all false
set_option maxRecDepth 100000
set_option maxHeartbeats 4000000
/-! sorted, of fewer than 64 things: the mathematics of the runs and the insertions -/
namespace L2
open PySem PySem.W PyProof.Rows
section
variable (key : Nat → Int)
/-- the key at a place -/
def kk (p : Array Nat) (i : Nat) : Int := key (p.getD i 0)
def Up (p : Array Nat) (n : Nat) : Prop := ∀ i j, i ≤ j → j < n → kk key p i ≤ kk key p j
def Dn (p : Array Nat) (n : Nat) : Prop := ∀ i j, i ≤ j → j < n → kk key p j ≤ kk key p i
variable {key}
theorem Up.snoc {p : Array Nat} {n : Nat} (h : Up key p n) (h0 : 0 < n) (hn : kk key p (n - 1) ≤ kk key p n) : Up key p (n + 1) := fun i j h1 h2 => by
  by_cases hj : j < n
  · exact h i j h1 hj
  · have : j = n := by omega
    subst this
    by_cases hi : i = j
    · subst hi; exact Int.le_refl _
    · exact Int.le_trans (h i (j - 1) (by omega) (by omega)) hn
theorem Dn.snoc {p : Array Nat} {n : Nat} (h : Dn key p n) (h0 : 0 < n) (hn : kk key p n ≤ kk key p (n - 1)) : Dn key p (n + 1) := fun i j h1 h2 => by
  by_cases hj : j < n
  · exact h i j h1 hj
  · have : j = n := by omega
    subst this
    by_cases hi : i = j
    · subst hi; exact Int.le_refl _
    · exact Int.le_trans hn (h i (j - 1) (by omega) (by omega))
/-- what a counted run is worth -/
def Good (key : Nat → Int) (p : Array Nat) (nrem : Nat) (r : Nat × Array Nat) : Prop := 1 ≤ r.1 ∧ r.1 ≤ nrem ∧ r.2.size = p.size ∧ r.2.Perm p ∧ Up key r.2 r.1
theorem Good.perm {p q : Array Nat} {nrem : Nat} {r : Nat × Array Nat} (h : Good key p nrem r) (hp : p.Perm q) (hs : p.size = q.size) : Good key q nrem r := ⟨h.1, h.2.1, h.2.2.1.trans hs, h.2.2.2.1.trans hp, h.2.2.2.2⟩
end
end L2

set_option Elab.async false
set_option linter.all false
set_option maxRecDepth 100000
set_option maxHeartbeats 4000000
/-! sorted, of lists of any length, whatever sorts their runs -/
namespace L2
open PySem PySem.W PyProof.Rows
section
variable {prog : Program} {w : World} {A : Around} {E : Value → Shared → Prop} {s : Shared}
end
end L2

set_option Elab.async false
set_option linter.all false
set_option maxRecDepth 100000
set_option maxHeartbeats 4000000
/-! sorted, below 64: what is asked lies in the list -/
namespace L2
open PySem PySem.W PyProof.Rows
def InR {α : Type} (n : Nat) (P : α → Prop) : KasT α → Prop
  | .ret a => P a
  | .ask i j k => i < n ∧ j < n ∧ ∀ b, InR n P (k b)
theorem InR.bind {α β : Type} {n : Nat} {f : α → KasT β} {P : α → Prop} {Q : β → Prop} (hf : ∀ a, P a → InR n Q (f a)) : ∀ {t : KasT α}, InR n P t → InR n Q (t.bind f)
  | .ret a, h => hf a h
  | .ask i j k, h => ⟨h.1, h.2.1, fun b => InR.bind hf (h.2.2 b)⟩
def Ent (n : Nat) (p : Array Nat) : Prop := ∀ i, p.getD i 0 < n
theorem Ent.perm {n : Nat} {p q : Array Nat} (h : Ent n p) (hp : q.Perm p) (hn : 0 < n) : Ent n q := fun i => by
  have e : ∀ (q : Array Nat) (m : Nat), q.getD m 0 = (q[m]?).getD 0 := fun q m => by simp [Array.getD_eq_getD_getElem?]
  rw [e]
  cases hq : q[i]? with
  | none => exact hn
  | some x =>
    have hx : x ∈ q := Array.mem_of_getElem? hq
    have hx2 : x ∈ p := hp.mem_iff.mp hx
    obtain ⟨j, hj, ej⟩ := Array.mem_iff_getElem.mp hx2
    have := h j
    rw [e, Array.getElem?_eq_getElem hj, ej] at this
    exact this
section
variable {n : Nat} (hn : 0 < n)
include hn in
include hn in
include hn in
include hn in
include hn in
include hn in
end
section
variable {prog : Program} {w : World} {A : Around} {s : Shared}
end
end L2

set_option Elab.async false
set_option linter.all false
set_option maxRecDepth 100000
set_option maxHeartbeats 4000000
/-! sorted, of data: texts, numbers, tuples of such -/
namespace L2
open PySem PySem.W PyProof.Rows
def D.fo : D → List Int
  | .str l => l.map Int.ofNat
  | .int i => [i]
  | _ => []
def D.ord : D → List (List Int)
  | .tup ds => ds.map D.fo
  | .lst ds => ds.map D.fo
  | d => [d.fo]
inductive Ty where | s | i
def Ty.ok : Ty → D → Bool
  | .s, .str _ => true
  | .i, .int _ => true
  | _, _ => false
def shOk : List Ty → List D → Bool
  | [], [] => true
  | t :: ts, d :: ds => t.ok d && shOk ts ds
  | _, _ => false
/-- what can be put in order -/
def Alike (ds : List D) : Prop := (∀ d ∈ ds, Ty.ok .s d = true) ∨ (∀ d ∈ ds, Ty.ok .i d = true) ∨ ∃ t ts, ∀ d ∈ ds, ∃ es, d = .tup es ∧ shOk (t :: ts) es = true
/-! ranks -/
/-! the asking -/
section
variable {prog : Program} {w : World} {A : Around} {E : Value → Shared → Prop} {s : Shared}
/-- a flat thing's value -/
def FV : D → Value → Prop
  | .str l, u => ∃ t, u = .str (T l) t
  | .int i, u => ∃ t, u = .int i t
  | _, _ => False
inductive FVs : List D → List Value → Prop
  | nil : FVs [] []
  | cons {d ds u us} : FV d u → FVs ds us → FVs (d :: ds) (u :: us)
end
end L2

set_option Elab.async false
set_option linter.all false
set_option maxRecDepth 100000
set_option maxHeartbeats 1000000
/-! sorting of any length: the gallops -/
namespace L2
open PySem PySem.W PyProof.Rows
section
variable {prog : Program} {w : World} {A : Around} {E : Value → Shared → Prop} {s : Shared} {κ : SortKind} {it : Array Keyed} {n : Nat} {key : Nat → Int}
end
end L2

set_option Elab.async false
set_option linter.all false
set_option maxRecDepth 100000
set_option maxHeartbeats 1000000
/-! sorting of any length: two sorted runs made one -/
namespace L2
open PySem PySem.W PyProof.Rows
structure MI (R : Nat → Nat → Prop) (ua ub o : List Nat) (i j : Nat) : Prop where
  hi : i ≤ ua.length
  hj : j ≤ ub.length
  pw : o.Pairwise R
  pa : ∀ x ∈ o, ∀ y ∈ ua.drop i, R x y
  pb : ∀ x ∈ o, ∀ y ∈ ub.drop j, R x y
  pm : o.Perm (ua.take i ++ ub.take j)
section
variable {R : Nat → Nat → Prop} {ua ub o : List Nat} {i j : Nat}
theorem MI.swap (h : MI R ua ub o i j) : MI R ub ua o j i := ⟨h.hj, h.hi, h.pw, h.pb, h.pa, h.pm.trans List.perm_append_comm⟩
theorem MI.fin (h : MI R ua ub o ua.length ub.length) : o.Pairwise R ∧ o.Perm (ua ++ ub) := ⟨h.pw, by simpa using h.pm⟩
theorem MI.len (h : MI R ua ub o i j) : o.length = i + j := by
  have := h.pm.length_eq
  have h1 := h.hi
  have h2 := h.hj
  simp at this; omega
end
def AK (it : Array Keyed) (o : List Nat) : Array Keyed := (o.map (kas_item it)).toArray
def SS (st st' : SortSt) : Prop := kindOf st' = kindOf st ∧ arrOf st' = arrOf st ∧ pendingOf st' = pendingOf st ∧ failedOf st' = failedOf st
theorem SS.refl (st : SortSt) : SS st st := ⟨rfl, rfl, rfl, rfl⟩
section
variable {prog : Program} {w : World} {A : Around} {E : Value → Shared → Prop} {s : Shared} {κ : SortKind} {it : Array Keyed} {n : Nat} {key : Nat → Int}
/-- what a merge leaves -/
def Res (it : Array Keyed) (key : Nat → Int) (ua ub : List Nat) (r : Array Keyed) : Prop := ∃ q : List Nat, r = AK it q ∧ q.Perm (ua ++ ub) ∧ q.Pairwise fun x y => key x ≤ key y
theorem Res.of {ua ub o : List Nat} (h : MI (fun x y => key x ≤ key y) ua ub o ua.length ub.length) : Res it key ua ub (AK it o) := ⟨o, rfl, h.fin.2, h.fin.1⟩
end
end L2

set_option Elab.async false
set_option linter.all false
set_option maxRecDepth 100000
set_option maxHeartbeats 2000000
/-! sorting of any length: the merge from below -/
namespace L2
open PySem PySem.W PyProof.Rows
section
variable {prog : Program} {w : World} {A : Around} {E : Value → Shared → Prop} {s : Shared} {κ : SortKind} {it : Array Keyed} {n : Nat} {key : Nat → Int}
end
end L2

set_option Elab.async false
set_option linter.all false
set_option maxRecDepth 100000
set_option maxHeartbeats 2000000
/-! sorting of any length: the merge from above -/
namespace L2
open PySem PySem.W PyProof.Rows
abbrev RG (key : Nat → Int) : Nat → Nat → Prop := fun x y => key y ≤ key x
def MH (key : Nat → Int) (pa pb o : List Nat) (na nb : Nat) : Prop := na ≤ pa.length ∧ nb ≤ pb.length ∧ MI (RG key) pa.reverse pb.reverse o (pa.length - na) (pb.length - nb)
section
variable {key : Nat → Int} {pa pb o : List Nat} {na nb : Nat}
theorem MH.swap (h : MH key pa pb o na nb) : MH key pb pa o nb na := ⟨h.2.1, h.1, h.2.2.swap⟩
theorem MH.len (h : MH key pa pb o na nb) : o.length + na + nb = pa.length + pb.length := by
  have := h.2.2.len
  have h1 := h.1
  have h2 := h.2.1
  omega
end
section
variable {prog : Program} {w : World} {A : Around} {E : Value → Shared → Prop} {s : Shared} {κ : SortKind} {it : Array Keyed} {n : Nat} {key : Nat → Int}
end
end L2

set_option Elab.async false
set_option linter.all false
set_option maxRecDepth 100000
set_option maxHeartbeats 2000000
/-! sorting of any length: two neighbouring runs -/
namespace L2
open PySem PySem.W PyProof.Rows
def Seg (key : Nat → Int) (p : Array Nat) (i j : Nat) : Prop := ∀ s t, i ≤ s → s ≤ t → t < j → kk key p s ≤ kk key p t
section
variable {prog : Program} {w : World} {A : Around} {E : Value → Shared → Prop} {s : Shared} {κ : SortKind} {it : Array Keyed} {n : Nat} {key : Nat → Int}
/-- how the state stands -/
def Sta (κ : SortKind) (it : Array Keyed) (st : SortSt) (p : Array Nat) (pend : Array (Nat × Nat × Nat)) : Prop := kindOf st = κ ∧ arrOf st = p.map (kas_item it) ∧ pendingOf st = pend ∧ failedOf st = none
end
end L2

set_option Elab.async false
set_option linter.all false
set_option maxRecDepth 100000
set_option maxHeartbeats 2000000
/-! sorting of any length: runs counted, and lengthened -/
namespace L2
open PySem PySem.W PyProof.Rows
def Mv (p p' : Array Nat) (lo hi : Nat) : Prop := p'.size = p.size ∧ p'.Perm p ∧ ∀ t, t < lo ∨ hi ≤ t → p'.getD t 0 = p.getD t 0
theorem Mv.refl (p : Array Nat) (lo hi : Nat) : Mv p p lo hi := ⟨rfl, Array.Perm.refl _, fun _ _ => rfl⟩
theorem Mv.trans {p q r : Array Nat} {lo hi : Nat} (h : Mv p q lo hi) (k : Mv q r lo hi) : Mv p r lo hi := ⟨k.1.trans h.1, k.2.1.trans h.2.1, fun t ht => (k.2.2 t ht).trans (h.2.2 t ht)⟩
def Sgd (key : Nat → Int) (p : Array Nat) (i j : Nat) : Prop := ∀ s t, i ≤ s → s ≤ t → t < j → kk key p t ≤ kk key p s
section
variable {key : Nat → Int} {p : Array Nat} {i j : Nat}
theorem Seg.snoc (h : Seg key p i j) (hij : i < j) (hn : kk key p (j - 1) ≤ kk key p j) : Seg key p i (j + 1) := fun s t h1 h2 h3 => by
  by_cases e : t = j
  · subst e
    by_cases e2 : s = t
    · subst e2; exact Int.le_refl _
    · exact Int.le_trans (h s (t - 1) h1 (by omega) (by omega)) hn
  · exact h s t h1 h2 (by omega)
theorem Sgd.snoc (h : Sgd key p i j) (hij : i < j) (hn : kk key p j ≤ kk key p (j - 1)) : Sgd key p i (j + 1) := fun s t h1 h2 h3 => by
  by_cases e : t = j
  · subst e
    by_cases e2 : s = t
    · subst e2; exact Int.le_refl _
    · exact Int.le_trans hn (h s (t - 1) h1 (by omega) (by omega))
  · exact h s t h1 h2 (by omega)
theorem Seg.one : Seg key p i (i + 1) := fun s t h1 h2 h3 => by
  have : s = t := by omega
  subst this; exact Int.le_refl _
theorem Sgd.congr {p' : Array Nat} (h : Sgd key p i j) (e : ∀ k, kk key p' k = kk key p k) : Sgd key p' i j := fun s t h1 h2 h3 => by rw [e, e]; exact h s t h1 h2 h3
end
section
variable {prog : Program} {w : World} {A : Around} {E : Value → Shared → Prop} {s : Shared} {κ : SortKind} {it : Array Keyed} {n : Nat} {key : Nat → Int}
theorem Sta.get {st : SortSt} {p : Array Nat} {pend : Array (Nat × Nat × Nat)} (h : Sta κ it st p pend) {i : Nat} (hi : i < p.size) : (arrOf st)[i]? = some (kas_item it (p.getD i 0)) := by
  rw [h.2.1]
  have e : p.getD i 0 = p[i] := by simp [Array.getD, hi]
  rw [e]; simp [hi]
end
end L2

set_option Elab.async false
set_option linter.all false
set_option maxRecDepth 100000
set_option maxHeartbeats 2000000
/-! sorting of any length -/
namespace L2
open PySem PySem.W PyProof.Rows
def Runs (key : Nat → Int) (p : Array Nat) : List (Nat × Nat × Nat) → Nat → Nat → Prop
  | [], lo, hi => lo = hi
  | r :: l, lo, hi => r.1 = lo ∧ 0 < r.2.1 ∧ Seg key p lo (lo + r.2.1) ∧ Runs key p l (lo + r.2.1) hi
section
variable {key : Nat → Int} {p : Array Nat}
theorem Runs.len : ∀ {l : List (Nat × Nat × Nat)} {lo hi : Nat}, Runs key p l lo hi → lo + l.length ≤ hi
  | [], _, _, h => by simp [Runs] at h; simp; omega
  | r :: l, lo, hi, h => by
    have := Runs.len h.2.2.2
    have := h.2.1
    simp; omega
theorem Runs.congr {p' : Array Nat} : ∀ {l : List (Nat × Nat × Nat)} {lo hi : Nat}, Runs key p l lo hi → (∀ t, lo ≤ t → t < hi → p'.getD t 0 = p.getD t 0) → Runs key p' l lo hi
  | [], _, _, h, _ => h
  | r :: l, lo, hi, h, e => by
    have hl := h.2.2.2.len
    refine ⟨h.1, h.2.1, fun s t h1 h2 h3 => ?_, h.2.2.2.congr fun t h1 h2 => e t (by omega) h2⟩
    unfold kk
    rw [e s h1 (by omega), e t (by omega) (by omega)]
    exact h.2.2.1 s t h1 h2 h3
theorem Runs.push : ∀ {l : List (Nat × Nat × Nat)} {lo hi m pw : Nat}, Runs key p l lo hi → 0 < m → Seg key p hi (hi + m) → Runs key p (l ++ [(hi, m, pw)]) lo (hi + m)
  | [], lo, hi, m, pw, h, hm, hs => by
    simp only [Runs] at h
    subst h
    exact ⟨rfl, hm, hs, rfl⟩
  | r :: l, lo, hi, m, pw, h, hm, hs => ⟨h.1, h.2.1, h.2.2.1, h.2.2.2.push hm hs⟩
theorem Runs.modify {f : Nat × Nat × Nat → Nat × Nat × Nat} (hf : ∀ r, (f r).1 = r.1 ∧ (f r).2.1 = r.2.1) : ∀ {l : List (Nat × Nat × Nat)} {i lo hi : Nat}, Runs key p l lo hi → Runs key p (l.modify i f) lo hi
  | [], i, lo, hi, h => by cases i <;> simpa using h
  | r :: l, 0, lo, hi, h => by
    rw [List.modify_zero_cons]
    simp only [Runs] at h ⊢
    rw [(hf r).1, (hf r).2]
    exact h
  | r :: l, i + 1, lo, hi, h => by
    rw [List.modify_succ_cons]
    exact ⟨h.1, h.2.1, h.2.2.1, h.2.2.2.modify hf⟩
theorem Runs.merge : ∀ {l : List (Nat × Nat × Nat)} {i lo hi : Nat}, Runs key p l lo hi → i + 1 < l.length → ∃ sa na pw sb nb pw2, l[i]? = some (sa, na, pw) ∧ l[i + 1]? = some (sb, nb, pw2) ∧ sb = sa + na ∧ 0 < na ∧ 0 < nb ∧ lo ≤ sa ∧ sb + nb ≤ hi ∧ Seg key p sa sb ∧ Seg key p sb (sb + nb) ∧
    ∀ p' : Array Nat, (∀ t, t < sa ∨ sb + nb ≤ t → p'.getD t 0 = p.getD t 0) → Seg key p' sa (sb + nb) → Runs key p' ((l.set i (sa, na + nb, pw)).eraseIdx (i + 1)) lo hi
  | [], i, lo, hi, h, hi1 => by simp at hi1
  | [r], 0, lo, hi, h, hi1 => by simp at hi1
  | (a1, a2, a3) :: (b1, b2, b3) :: l, 0, lo, hi, h, hi1 => by
    obtain ⟨e1, e2, e3, f1, f2, f3, f4⟩ := h
    dsimp only at e1 e2 e3 f1 f2 f3 f4
    have hl := f4.len
    subst e1
    subst f1
    refine ⟨a1, a2, a3, a1 + a2, b2, b3, rfl, rfl, rfl, e2, f2, Nat.le_refl _, by omega, e3, f3, fun p' hp hs => ?_⟩
    show Runs key p' ((a1, a2 + b2, a3) :: l) a1 hi
    refine ⟨rfl, by show 0 < a2 + b2; omega, ?_, ?_⟩
    · show Seg key p' a1 (a1 + (a2 + b2))
      rw [← Nat.add_assoc]; exact hs
    · show Runs key p' l (a1 + (a2 + b2)) hi
      rw [← Nat.add_assoc]
      exact f4.congr fun t h1 h2 => hp t (.inr h1)
  | r :: l, i + 1, lo, hi, h, hi1 => by
    obtain ⟨e1, e2, e3, e4⟩ := h
    obtain ⟨sa, na, pw, sb, nb, pw2, g1, g2, g3, g4, g5, g6, g7, g8, g9, g10⟩ := e4.merge (i := i) (by simpa using hi1)
    refine ⟨sa, na, pw, sb, nb, pw2, by simpa using g1, by simpa using g2, g3, g4, g5, by omega, g7, g8, g9, fun p' hp hs => ?_⟩
    show Runs key p' (r :: ((l.set i (sa, na + nb, pw)).eraseIdx (i + 1))) lo hi
    refine ⟨e1, e2, fun s t h1 h2 h3 => ?_, g10 p' hp hs⟩
    unfold kk
    rw [hp s (.inl (by omega)), hp t (.inl (by omega))]
    exact e3 s t h1 h2 h3
theorem Runs.whole {l : List (Nat × Nat × Nat)} {hi : Nat} (h : Runs key p l 0 hi) (hl : l.length ≤ 1) : Seg key p 0 hi := by
  match l, hl with
  | [], _ => simp only [Runs] at h; subst h; intro s t h1 h2 h3; omega
  | [r], _ =>
    obtain ⟨e1, e2, e3, e4⟩ := h
    simp only [Runs] at e4
    subst e4
    exact e3
end
section
variable {prog : Program} {w : World} {A : Around} {E : Value → Shared → Prop} {s : Shared} {κ : SortKind} {it : Array Keyed} {n : Nat} {key : Nat → Int}
/-- where the sorting stands -/
def Now (κ : SortKind) (it : Array Keyed) (key : Nat → Int) (p0 : Array Nat) (lo : Nat) (T : Array Nat) (st : SortSt) (len : Nat) : Prop := ∃ p pend, Sta κ it st p pend ∧ p.size = p0.size ∧ p.Perm p0 ∧ Runs key p pend.toList 0 lo ∧ pend.size = len ∧ ∀ t, lo ≤ t → p.getD t 0 = T.getD t 0
theorem Now.pow {p0 T : Array Nat} {lo len i : Nat} {st st5 : SortSt} {f : Nat × Nat × Nat → Nat × Nat × Nat} (hN : Now κ it key p0 lo T st len) (e5 : st5 = setPending st ((pendingOf st).modify i f)) (hf : ∀ r, (f r).1 = r.1 ∧ (f r).2.1 = r.2.1) : ∃ len', Now κ it key p0 lo T st5 len' := by
  obtain ⟨p, pend, hs, z, pm, hr, e, t⟩ := hN
  refine ⟨_, p, pend.modify i f, ?_, z, pm, ?_, rfl, t⟩
  · rw [e5]
    refine ⟨hs.1, hs.2.1, ?_, hs.2.2.2⟩
    show (pendingOf st).modify _ _ = _
    rw [hs.2.2.1]
  · rw [Array.toList_modify]
    exact hr.modify hf
end
end L2

set_option Elab.async false
set_option linter.all false
set_option maxRecDepth 100000
set_option maxHeartbeats 4000000
/-! sorted as a rule of the layer, at any length -/
namespace L2
open PySem PySem.W PyProof.Rows
section
variable {prog : Program} {w : World} {A : Around} {s : Shared}
end
section
variable {X : Cx} {pins : List (Addr × Obj)} {σ : St} {H : Hp} {s : Shared}
theorem FV.of {t : Ty} {d : D} {x : V} {u : Value} (ht : t.ok d = true) (r : Rep X.K H d x) (q : RelV x u) : FV d u := by
  cases t <;> cases d <;> simp [Ty.ok] at ht
  · rw [r.of_str] at q; exact q
  · rw [r.of_int] at q; exact q
theorem FVs.of : ∀ {ts : List Ty} {ds : List D} {xs : List V} {us : List Value}, shOk ts ds = true → Reps X.K H ds xs → Vals xs us → FVs ds us
  | [], ds, _, _, ht, r, q => by
    cases ds <;> simp [shOk] at ht
    rw [Reps] at r; subst r; cases q; exact .nil
  | t :: ts, ds, _, _, ht, r, q => by
    cases ds with
    | nil => simp [shOk] at ht
    | cons d ds =>
      simp only [shOk, Bool.and_eq_true] at ht
      rw [Reps] at r
      obtain ⟨x, xs, rfl, r1, r2⟩ := r
      cases q with
      | cons q1 q2 => exact .cons (FV.of ht.1 r1 q1) (FVs.of ht.2 r2 q2)
/-- a tuple's value in the heap -/
def TV (h : Heap) (es : List D) (u : Value) : Prop := ∃ a o its n, u = .ref a ∧ h.get? a = some o ∧ o.cls = .type "tuple" ∧ o.data = .seq its n ∧ FVs es its.toList
theorem Inv.tv (I : Inv X pins σ H s) {ts : List Ty} {es : List D} {x : V} {u : Value} (ht : shOk ts es = true) (r : Rep X.K H (.tup es) x) (q : RelV x u) : TV s.heap es u := by
  obtain ⟨p, xs, rfl, sq, rs⟩ := r.of_tup
  cases q
  obtain ⟨its, rv, ⟨o, e, c, n, hd⟩, _⟩ := I.tuple sq
  exact ⟨p, o, its.toArray, n, rfl, e, c, hd, by simpa using FVs.of ht rs rv⟩
def Ty.tv : Ty → Value
  | .s => .type "str"
  | .i => .type "int"
end
section
variable {K : PySem.W.Frag} {G H₀ L : Hp} {ss : List Sl} {t : TE} {ds : List D}
end
end L2

set_option Elab.async false
set_option linter.all false
set_option maxRecDepth 100000
set_option maxHeartbeats 2000000
/-! Python's own functions on data -/
namespace L2
open PySem PySem.W PySem.Spec PyProof.Rows
def cutD (xs : List D) (lo hi : Option Int) : List D := (xs.drop (HT.sIx xs.length 0 lo)).take (HT.sIx xs.length xs.length hi - HT.sIx xs.length 0 lo)
theorem Reps.cut {K : PySem.W.Frag} {H : Hp} {ds : List D} {xs : List V} (lo hi : Option Int) (h : Reps K H ds xs) : Reps K H (cutD ds lo hi) (cutV xs lo hi) := by
  unfold cutD cutV
  rw [← h.length]
  exact (h.drop _).take _
section
variable {K : PySem.W.Frag} {G H₀ L : Hp} {ss : List Sl} {t ta tb : TE} {d : D} {ds : List D}
/-! len -/
theorem ev_lenL (a : EvL K G H₀ L ss t ds) : Ev K G H₀ L ss (tCB (fun xs H Q => ∃ p ys, xs = [.ref p] ∧ (SqL K H p ys ∨ SqT K H p ys) ∧ Q (.int ys.length) H) (tCons t tNil)) (.int ds.length) := fun F H σ Q S q =>
  a F H σ _ S fun p vs F' H' e sq r => ⟨p, vs, rfl, .inl sq, q _ _ _ e (by rw [← r.length]; exact Rep.int)⟩
/-! list(x) -/
theorem evo_list (a : EvL K G H₀ L ss t ds) : EvO K G H₀ L ss (tCB (fun xs H Q => ∃ p ys, xs = [.ref p] ∧ (SqL K H p ys ∨ SqT K H p ys) ∧ ∀ l, H l = none → Q (.ref l) (upd H l (.lst ys))) (tCons t tNil)) ds := fun F H σ Q S q =>
  a F H σ _ S fun p vs F' H' e sq r => ⟨p, vs, rfl, .inl sq, fun l hl => q l vs F' _ (e.newO hl) (e.hh.free hl) (e.fh.free hl) upd_same r⟩
/-! slices -/
def EvP (K : PySem.W.Frag) (G H₀ L : Hp) (ss : List Sl) (t : TO) (o : Option Int) : Prop := ∀ F H σ (Q : Option Int → Hp → Prop), Sat K G H₀ L F H σ ss → (∀ F' H', Ext F H F' H' → Q o H') → t σ H Q
theorem evp_no : EvP K G H₀ L ss tNoPart none := fun F H σ Q S q => q _ _ (Ext.refl S.ext.fh)
theorem evp_part {i : Int} (a : EvB K G H₀ L ss t (.int i)) : EvP K G H₀ L ss (tPart t) (some i) := fun F H σ Q S q => a F H σ _ S fun v F' H' e r => ⟨i, r.of_int, q _ _ e⟩
theorem evo_slL {tl th : TO} {lo hi : Option Int} (a : EvL K G H₀ L ss t ds) (b : EvP K G H₀ L ss tl lo) (c : EvP K G H₀ L ss th hi) : EvO K G H₀ L ss (tSl (rSlL K) t tl th) (cutD ds lo hi) := fun F H σ Q S q =>
  a F H σ _ S fun p vs F1 H1 e1 sq r => b F1 H1 σ _ (S.ext2 e1) fun F2 H2 e2 => c F2 H2 σ _ ((S.ext2 e1).ext2 e2) fun F3 H3 e3 =>
    ⟨p, vs, rfl, SqL.same e3.hh (SqL.same e2.hh sq), fun l hl => q l _ F3 _ (((e1.trans e2).trans e3).newO hl) (((e1.trans e2).trans e3).hh.free hl) (((e1.trans e2).trans e3).fh.free hl) upd_same (((r.mono e2.gf).mono e3.gf).cut lo hi)⟩
/-! join -/
end
theorem Reps.strs {K : PySem.W.Frag} {H : Hp} : ∀ {ls : List (List Nat)} {vs : List V}, Reps K H (ls.map D.str) vs → vs = (ls.map T).map V.str ∧ ∀ l ∈ ls, ∀ c ∈ l, c < 128
  | [], vs, h => by rw [List.map_nil, Reps] at h; subst h; exact ⟨rfl, by simp⟩
  | l :: ls, vs, h => by
    rw [List.map_cons, Reps] at h
    obtain ⟨x, xs, rfl, h1, h2⟩ := h
    obtain ⟨e, ha⟩ := h2.strs
    refine ⟨by rw [h1.of_str, e]; rfl, fun m hm => ?_⟩
    rcases List.mem_cons.mp hm with rfl | hm
    · exact h1.asc
    · exact ha m hm
section
variable {K : PySem.W.Frag} {G H₀ L : Hp} {ss : List Sl} {t ta tb : TE} {d : D} {ds : List D}
/-! isinstance -/
theorem ev_isL (a : EvL K G H₀ L ss t ds) : Ev K G H₀ L ss (tCB (fun xs H Q => ∃ p ys, xs = [.ref p, .ty "list"] ∧ SqL K H p ys ∧ Q (.bl true) H) (tCons t (tCons (tC (.ty "list")) tNil))) (.bl true) := fun F H σ Q S q =>
  a F H σ _ S fun p vs F1 H1 e1 sq r1 => ⟨p, vs, rfl, sq, q _ _ _ e1 Rep.bl⟩
theorem ev_isT (a : EvB K G H₀ L ss t (.tup ds)) : Ev K G H₀ L ss (tCB (fun xs H Q => ∃ p ys, xs = [.ref p, .ty "tuple"] ∧ SqT K H p ys ∧ Q (.bl true) H) (tCons t (tCons (tC (.ty "tuple")) tNil))) (.bl true) := fun F H σ Q S q =>
  a F H σ _ S fun v F1 H1 e1 r1 => by
    obtain ⟨p, vs, rfl, sq, _⟩ := r1.of_tup
    exact ⟨p, vs, rfl, sq, q _ _ _ e1 Rep.bl⟩
end
/-! strip -/
section
variable {X : Cx}
end
section
variable {K : PySem.W.Frag} {G H₀ L : Hp} {ss : List Sl} {t ta tb : TE} {d : D} {ds : List D}
end
end L2

set_option Elab.async false
set_option linter.all false
set_option maxRecDepth 100000
set_option maxHeartbeats 2000000
/-! all, any, min and max of texts -/
namespace L2
open PySem PySem.W PySem.Spec PyProof.Rows
section
variable {X : Cx} {prog : Program} {w : World} {A : Around} {E : Value → Shared → Prop} {s : Shared}
/-! min and max of two texts -/
def two (x y : Str) (t u : Tok) : Array Value := #[.str x t, .str y u]
end
end L2

set_option Elab.async false
set_option linter.all false
set_option maxRecDepth 100000
set_option maxHeartbeats 2000000
/-! the order of tuples, asked with < -/
namespace L2
open PySem PySem.W PySem.Spec PyProof.Rows PySem.Calls
open PySem.MeetsSeq PySem.MeetsSeq2 PySem.MeetsSeq3
theorem FVs.len {ds : List D} {us : List Value} (h : FVs ds us) : us.length = ds.length := by
  induction h with
  | nil => rfl
  | cons _ _ ih => simp [ih]
section
variable {X : Cx}
end
section
variable {K : PySem.W.Frag} {G H₀ L : Hp} {ss : List Sl} {t ta tb : TE} {d : D} {ds es : List D}
theorem Reps.bools {H : Hp} : ∀ {bs : List Bool} {vs : List V}, Reps K H (bs.map D.bl) vs → vs = bs.map V.bl
  | [], vs, h => by rw [List.map_nil, Reps] at h; exact h
  | b :: bs, vs, h => by
    rw [List.map_cons, Reps] at h
    obtain ⟨x, xs, rfl, h1, h2⟩ := h
    rw [h1.of_bl, h2.bools]; rfl
end
end L2

set_option Elab.async false
set_option linter.all false
set_option maxRecDepth 100000
set_option maxHeartbeats 2000000
/-! a def's body from its promise -/
namespace L2
open PySem PySem.W PySem.Spec PyProof.Rows
def slots (n : Nat) (ds : List D) : List Sl := ds.map Sl.d ++ List.replicate (n - ds.length) .un
section
variable {K : PySem.W.Frag} {H : Hp} {vs : List V} {Q : VK} {X : XK} {N : List Str} {t : TS} {pre : List D → Prop}
theorem sat_start {G : Hp} {ds : List D} (sm : Same G H) (r : Reps K G ds vs) (hN : vs.length ≤ N.length) : Sat K G H G G H (start N vs) (slots N.length ds) := by
  have hl := r.length
  have ads : ∀ (i : Nat) s, (slots N.length ds)[i]? = some s → s.ads = [] := fun i s hs => by
    have hm := List.mem_of_getElem? hs
    unfold slots at hm
    rcases List.mem_append.mp hm with h | h
    · obtain ⟨d, _, rfl⟩ := List.mem_map.mp h; rfl
    · rw [List.eq_of_mem_replicate h]; rfl
  refine ⟨Ext.refl sm, Same.refl _, ?_, fun i s hs => ?_, fun i s hs => by rw [ads i s hs]; exact List.nodup_nil, fun i j s s' _ hs _ p hp => by rw [ads i s hs] at hp; cases hp⟩
  · unfold start slots; simp; omega
  · by_cases hi : i < ds.length
    · have e : (slots N.length ds)[i]? = some (.d ds[i]) := by
        unfold slots
        rw [List.getElem?_append_left (by simpa using hi), List.getElem?_map, List.getElem?_eq_getElem hi]; rfl
      rw [e] at hs
      cases hs
      obtain ⟨v, hv, rv⟩ := r.get' (List.getElem?_eq_getElem hi)
      refine ⟨v, ?_, rv⟩
      unfold start
      rw [List.getD_eq_getElem?_getD, List.getElem?_append_left (by simp; omega), List.getElem?_map, hv]; rfl
    · have hm : s = .un := by
        unfold slots at hs
        rw [List.getElem?_append_right (by simp; omega)] at hs
        exact List.eq_of_mem_replicate (List.mem_of_getElem? hs)
      rw [hm]; trivial
theorem go_spD {res : List D → D} (h : SpD K pre res vs H Q X) (hN : vs.length ≤ N.length) (body : ∀ G ds, pre ds → RtD K G H Q (res ds) → Go K G H G { nx := fun _ H' => Q .non H', rt := Q } (slots N.length ds) t) : t { nx := fun _ H' => Q .non H', rt := Q } (start N vs) H := by
  obtain ⟨G, ds, sm, r, hp, q⟩ := h
  exact body G ds hp (fun v F H' e r => q v F H' e r) G H _ (sat_start sm r hN)
theorem go_spO {res : List D → List D} (h : SpO K pre res vs H Q X) (hN : vs.length ≤ N.length) (body : ∀ G ds, pre ds → RtO K G H Q (res ds) → Go K G H G { nx := fun _ H' => Q .non H', rt := Q } (slots N.length ds) t) : t { nx := fun _ H' => Q .non H', rt := Q } (start N vs) H := by
  obtain ⟨G, ds, sm, r, hp, q⟩ := h
  exact body G ds hp (fun p ws F H' e h1 h2 h3 r => q p ws F H' e h1 h2 h3 r) G H _ (sat_start sm r hN)
theorem spD_len {res : List D → D} {n : Nat} (hpre : ∀ ds, pre ds → ds.length = n) (h : SpD K pre res vs H Q X) : vs.length = n := by
  obtain ⟨G, ds, sm, r, hp, q⟩ := h
  rw [← r.length]; exact hpre ds hp
theorem spO_len {res : List D → List D} {n : Nat} (hpre : ∀ ds, pre ds → ds.length = n) (h : SpO K pre res vs H Q X) : vs.length = n := by
  obtain ⟨G, ds, sm, r, hp, q⟩ := h
  rw [← r.length]; exact hpre ds hp
end
section
variable {K : PySem.W.Frag} {G H₀ L : Hp} {ss : List Sl} {t ta tb : TE} {d : D} {ds es : List D} {i j : Int}
theorem ev_mod (a : EvB K G H₀ L ss ta (.int i)) (b : EvB K G H₀ L ss tb (.int j)) (h : 0 < j) : Ev K G H₀ L ss (tOp (rI (fun _ j => 0 < j) fun i j => .int (i % j)) ta tb) (.int (i % j)) := ev_opI (C := fun _ j => 0 < j) (g := fun i j => i % j) a b h
theorem ev_fdiv (a : EvB K G H₀ L ss ta (.int i)) (b : EvB K G H₀ L ss tb (.int j)) (h : CDiv i j) : Ev K G H₀ L ss (tOp (rI CDiv fun i j => .int (i / j)) ta tb) (.int (i / j)) := ev_opI (C := CDiv) (g := fun i j => i / j) a b h
end
theorem sIx_at (n d : Nat) {a : Int} (h : 0 ≤ a) : HT.sIx n d (some a) = min a.toNat n := by
  show (if a < 0 then (a + (n : Int)).toNat else min a.toNat n) = _
  rw [if_neg (by omega)]
theorem cutD_to (m : List D) {a : Int} (h : 0 ≤ a) : cutD m none (some a) = m.take a.toNat := by
  unfold cutD
  rw [sIx_at _ _ h, show HT.sIx m.length 0 none = 0 from rfl, List.drop_zero, Nat.sub_zero, ← List.take_eq_take_min]
end L2

set_option Elab.async false
set_option linter.all false
set_option maxRecDepth 100000
set_option maxHeartbeats 2000000
/-! comprehensions over coded lists -/
namespace L2
open PySem PySem.W PySem.Spec PyProof.Rows
theorem range_fm {α β : Type} (xs : List α) (z : α) (p : α → Bool) (f : α → β) : ((List.range xs.length).filter fun i => p (xs.getD i z)).map (fun i => f (xs.getD i z)) = (xs.filter p).map f := by
  have e : xs = (List.range xs.length).map fun i => xs.getD i z := by
    refine List.ext_getElem? fun i => ?_
    rw [List.getElem?_map]
    by_cases hi : i < xs.length
    · rw [List.getElem?_range hi, List.getElem?_eq_getElem hi]; simp [List.getD_eq_getElem?_getD, hi]
    · rw [List.getElem?_eq_none (by omega), List.getElem?_eq_none (by simp; omega)]; rfl
  conv => rhs; rw [e]
  rw [List.filter_map, List.map_map]
  rfl
section
variable {K : PySem.W.Frag} {G H₀ L : Hp} {ss : List Sl}
/-- [e for g in xs if t], xs a coded list -/
theorem evo_lcX {α : Type} (xs : List α) (enc : α → D) (p : α → Bool) (f : α → D) {tl : TE} {g : TG} {tt : TT} {te : TE} {nt : Nat} {cs : List Nat} (a : EvL K G H₀ L ss tl (xs.map enc)) (hk : GK nt g) (hc : cs.Nodup) (hz : xs.length < sizeLine)
    (hs : ∀ x ∈ xs, ∃ ss', Tg K G H₀ L g (enc x) (lcSl nt cs ss) ss' ∧ EvT K G H₀ L ss' tt (p x) ∧ (p x = true → Ev K G H₀ L ss' te (f x))) :
    EvO K G H₀ L ss (tLC nt cs (iList K tl) g tt te) ((xs.filter p).map f) := by
  cases xs with
  | nil =>
    have := evo_lcI (p := fun _ => true) (f := fun _ => .non) (tt := tt) (te := te) (evi_list a) hk hc (by simpa using hz) (fun i hi => by simp at hi)
    simpa using this
  | cons z zs =>
    have hl : ((z :: zs).map enc).length = (z :: zs).length := by simp
    have := evo_lcI (p := fun i => p ((z :: zs).getD i z)) (f := fun i => f ((z :: zs).getD i z)) (tt := tt) (te := te) (evi_list a) hk hc (by rw [hl]; exact hz) (fun i hi => by
      rw [hl] at hi
      have hm : (z :: zs).getD i z ∈ (z :: zs) := by
        rw [List.getD_eq_getElem?_getD, List.getElem?_eq_getElem hi]; exact List.getElem_mem hi
      have e : ((z :: zs).map enc).getD i .non = enc ((z :: zs).getD i z) := by
        rw [List.getD_eq_getElem?_getD, List.getElem?_map, List.getD_eq_getElem?_getD, List.getElem?_eq_getElem hi]; rfl
      rw [e]
      exact hs _ hm)
    rw [hl, range_fm] at this
    exact this
theorem evt_true : EvT K G H₀ L ss tTrue true := fun F H σ Q S q => q _ _ (Ext.refl S.ext.fh)
/-- without a test -/
theorem evo_lcM {α : Type} (xs : List α) (enc : α → D) (f : α → D) {tl : TE} {g : TG} {te : TE} {nt : Nat} {cs : List Nat} (a : EvL K G H₀ L ss tl (xs.map enc)) (hk : GK nt g) (hc : cs.Nodup) (hz : xs.length < sizeLine)
    (hs : ∀ x ∈ xs, ∃ ss', Tg K G H₀ L g (enc x) (lcSl nt cs ss) ss' ∧ Ev K G H₀ L ss' te (f x)) :
    EvO K G H₀ L ss (tLC nt cs (iList K tl) g tTrue te) (xs.map f) := by
  have := evo_lcX xs enc (fun _ => true) f a hk hc hz (tt := tTrue) (te := te) fun x hx => by
    obtain ⟨ss', h1, h2⟩ := hs x hx
    exact ⟨ss', h1, evt_true, fun _ => h2⟩
  rw [show xs.filter (fun _ => true) = xs from List.filter_eq_self.mpr (by simp)] at this
  exact this
end
section
variable {K : PySem.W.Frag} {G H₀ L : Hp} {ss : List Sl} {E : Ends} {ds es : List D}
end
end L2

set_option Elab.async false
set_option linter.all false
set_option maxRecDepth 100000
set_option maxHeartbeats 4000000
/-! MY OWN: the table of a set, as mathematics: places, probes, and that a probe ends -/
namespace L2T
open PySem

/-! ### searching in a rising row -/

/-! ### the slots -/

structure TOk (t : SetTable) : Prop where
  pl : t.place.toList.Pairwise (· < ·)
  du : t.dummies.toList.Pairwise (· < ·)
  ple : ∀ j ∈ t.place.toList, j ≤ t.mask
  dle : ∀ j ∈ t.dummies.toList, j ≤ t.mask
  dis : ∀ j ∈ t.dummies.toList, j ∉ t.place.toList
  pow : ∃ k, t.mask + 1 = 2 ^ (k + 3)
  big : t.mask ≤ 8191

/-! ### the leaps come to every place -/

end L2T

set_option Elab.async false
set_option linter.all false
set_option maxRecDepth 100000
set_option maxHeartbeats 4000000
/-! MY OWN: the probes of a table, one after the other -/
namespace L2T
open PySem SetTable

def advM (mask : Nat) (p : Probe) : Probe :=
  if p.more > 0 then { p with j := p.j + 1, more := p.more - 1 } else
  let (i, perturb) := leap mask p.i p.perturb
  { p with j := i, more := runEnd mask i - i, i, perturb }
def stM (mask i perturb : Nat) : Probe := { j := i, more := runEnd mask i - i, i, perturb, dummy := none }
def prM (mask : Nat) (h : Int) : Nat → Probe
  | 0 => stM mask (bits h % (mask + 1)) (bits h)
  | n + 1 => advM mask (prM mask h n)
def posM (mask : Nat) (h : Int) (n : Nat) : Nat := (prM mask h n).j

/-! ### one probe -/

/-- a slot that a search by this hash comes to -/
def Reach (t : SetTable) (h : Int) (j : Nat) : Prop := ∃ n, posM t.mask h n = j ∧ ∀ m, m < n → t.slot (posM t.mask h m) ≠ .empty

end L2T

set_option Elab.async false
set_option linter.all false
set_option maxRecDepth 100000
set_option maxHeartbeats 4000000
/-! MY OWN: a table laid anew, a slot filled, a slot given up -/
namespace L2T
open PySem SetTable

/-- the table stands for these elements -/
structure SOk {α : Type} (t : SetTable) (es : List (Int × α)) : Prop where
  ok : TOk t
  room : t.fill * 5 < t.mask * 3
  size : t.place.size = es.length
  reach : ∀ c ∈ t.place.toList.zip es, Reach t c.2.1 c.1

/-! ### laid clean -/

def lives (mask : Nat) (owner : Array (Option Nat)) : List (Nat × Nat) := (List.range (mask + 1)).filterMap fun j => (owner.getD j none).map (j, ·)

structure LInv (mask : Nat) (hs : List Int) (owner : Array (Option Nat)) : Prop where
  size : owner.size = mask + 1
  perm : ((lives mask owner).map (·.2)).Perm (List.range hs.length)
  reach : ∀ j i, owner.getD j none = some i → ∃ h, hs[i]? = some h ∧ ∃ n, posM mask h n = j ∧ ∀ q, q < n → owner.getD (posM mask h q) (some 0) ≠ none

end L2T

set_option Elab.async false
set_option linter.all false
set_option maxRecDepth 100000
set_option maxHeartbeats 4000000
/-! MY OWN: a slot filled, a slot given up, a table laid anew by its size -/
namespace L2T
open PySem SetTable

/-! ### by its size -/

/-! ### filled -/

end L2T

set_option Elab.async false
set_option linter.all false
set_option maxRecDepth 100000
set_option maxHeartbeats 4000000
/-! MY OWN: sets in the heap, by their keys: texts, whole numbers, tuples of these -/
namespace L2
open PySem PySem.Spec PyProof.Rows L2T

/-- a key of a set: flat, or a tuple of flat ones -/
inductive SK where
  | one (k : Key)
  | many (ks : List Key)
  deriving DecidableEq
def SK.flat : SK → Bool
  | .one _ => true
  | .many _ => false
section
variable (prog : Program) (w : World)
def SK.is (h : Heap) : SK → Value → Prop
  | .one k, v => (mixKind prog w).is k v = true
  | .many ks, v => ∃ a, v = .ref a ∧ IsTupleKey (mixKind prog w) h ks a
def SK.hash : SK → Int
  | .one k => (mixKind prog w).hash k
  | .many ks => tupleKeyHash (mixKind prog w) ks
/-- entries by their keys -/
inductive Es (h : Heap) : List SK → List (Int × Value) → Prop
  | nil : Es h [] []
  | cons {k : SK} {e : Int × Value} {ks : List SK} {es : List (Int × Value)} : e.1 = k.hash prog w → k.is prog w h e.2 → Es h ks es → Es h (k :: ks) (e :: es)
/-- tuples stay -/
def KeepT (h h' : Heap) : Prop := ∀ b o, o.cls = .type "tuple" → h.get? b = some o → h'.get? b = some o
def led0 : Bool := !w.params.followText "set-order"
/-- what a set's object holds -/
structure SetO (h : Heap) (o : Obj) (ks : List SK) (es : Array (Int × Value)) (ep : Nat) (t : SetTable) : Prop where
  ex : o.ExactSet
  data : o.data = .set es ep t
  tab : SOk t es.toList
  ent : Es prog w h ks es.toList
  nod : ks.Nodup
  small : ks.length ≤ 1000
  led : t.led = led0 w
  kind : ∃ f, ∀ k ∈ ks, k.flat = f
def SetE (h : Heap) (a : Addr) (ks : List SK) (es : Array (Int × Value)) : Prop := ∃ o ep t, h.get? a = some o ∧ SetO prog w h o ks es ep t
end
section
variable {prog : Program} {w : World} {h h' : Heap}
theorem SK.is_mono {k : SK} {v : Value} (K : KeepT h h') (x : k.is prog w h v) : k.is prog w h' v := by
  cases k with
  | one k => exact x
  | many ks =>
    obtain ⟨a, rfl, o, its, n, e, c, d, i⟩ := x
    exact ⟨a, rfl, o, its, n, K a o c e, c, d, i⟩
theorem Es.mono {ks : List SK} {es : List (Int × Value)} (K : KeepT h h') (x : Es prog w h ks es) : Es prog w h' ks es := by
  induction x with
  | nil => exact .nil
  | cons a b _ ih => exact .cons a (SK.is_mono K b) ih
theorem Es.length {ks : List SK} {es : List (Int × Value)} (x : Es prog w h ks es) : ks.length = es.length := by
  induction x with
  | nil => rfl
  | cons a b _ ih => simp [ih]
theorem Es.get {ks : List SK} {es : List (Int × Value)} (x : Es prog w h ks es) : ∀ (i : Nat) (e : Int × Value), es[i]? = some e → ∃ k, ks[i]? = some k ∧ e.1 = k.hash prog w ∧ k.is prog w h e.2 := by
  induction x with
  | nil => intro i e he; simp at he
  | cons a b _ ih =>
    intro i e he
    cases i with
    | zero => simp at he; subst he; exact ⟨_, rfl, a, b⟩
    | succ i => exact ih i e he
theorem Es.perm {ks : List SK} {es es' : List (Int × Value)} (x : Es prog w h ks es) (p : es'.Perm es) : ∃ ks', ks'.Perm ks ∧ Es prog w h ks' es' := by
  have p' := p.symm
  clear p
  induction p' generalizing ks with
  | nil => exact ⟨ks, .refl _, x⟩
  | cons e _ ih =>
    cases x with
    | cons a b y =>
      obtain ⟨k2, q, z⟩ := ih y
      exact ⟨_ :: k2, q.cons _, .cons a b z⟩
  | swap e f l =>
    cases x with
    | cons a b y => cases y with
      | cons c d z => exact ⟨_ :: _ :: _, List.Perm.swap _ _ _, .cons c d (.cons a b z)⟩
  | trans _ _ ih1 ih2 =>
    obtain ⟨k1, q1, z1⟩ := ih1 x
    obtain ⟨k2, q2, z2⟩ := ih2 z1
    exact ⟨k2, q2.trans q1, z2⟩
theorem SetO.mono {o : Obj} {ks : List SK} {es : Array (Int × Value)} {ep : Nat} {t : SetTable} (K : KeepT h h') (S : SetO prog w h o ks es ep t) : SetO prog w h' o ks es ep t :=
  ⟨S.ex, S.data, S.tab, S.ent.mono K, S.nod, S.small, S.led, S.kind⟩
theorem SetO.same {o o' : Obj} {ks : List SK} {es es' : Array (Int × Value)} {ep ep' : Nat} {t t' : SetTable} (S : SetO prog w h o ks es ep t) (S' : SetO prog w h o' ks es' ep' t') : es.size = es'.size := by
  have a := S.ent.length
  have b := S'.ent.length
  simp at a b; omega
end
end L2

set_option Elab.async false
set_option linter.all false
set_option maxRecDepth 100000
set_option maxHeartbeats 4000000
/-! MY OWN: a set searched -/
namespace L2
open PySem PySem.Spec PyProof.Rows L2T
section
variable {prog : Program} {w : World} {A : Around} {E : Value → Shared → Prop} {s : Shared}
end
end L2

set_option Elab.async false
set_option linter.all false
set_option maxRecDepth 100000
set_option maxHeartbeats 4000000
/-! MY OWN: a key found in a set, a key put into a set -/
namespace L2
open PySem PySem.Spec PyProof.Rows L2T
section
variable {prog : Program} {w : World} {h : Heap}
end
section
variable {prog : Program} {w : World} {A : Around} {E : Value → Shared → Prop} {s : Shared}
end
end L2

set_option Elab.async false
set_option linter.all false
set_option maxRecDepth 100000
set_option maxHeartbeats 4000000
/-! MY OWN: a key put into a set -/
namespace L2
open PySem PySem.Spec PyProof.Rows L2T
section
variable {prog : Program} {w : World} {h : Heap}
end
section
variable {prog : Program} {w : World} {A : Around} {E : Value → Shared → Prop} {s : Shared}
end
end L2

set_option Elab.async false
set_option linter.all false
set_option maxRecDepth 100000
set_option maxHeartbeats 4000000
/-! MY OWN: the things of a set, one after the other -/
namespace L2
open PySem PySem.Spec PyProof.Rows L2T
section
variable {prog : Program} {w : World} {A : Around} {E : Value → Shared → Prop} {s : Shared}
/-- a set's object, without its keys -/
structure SetL (w : World) (o : Obj) (es : Array (Int × Value)) (ep : Nat) (t : SetTable) : Prop where
  data : o.data = .set es ep t
  tab : SOk t es.toList
  led : t.led = led0 w
/-- an iterator of a set -/
def SetIt (h : Heap) (I a : Addr) (first : Value) (i n ep : Nat) : Prop := ∃ o, h.get? I = some o ∧ o.cls = .type "set_iterator" ∧ o.data = .fields #[first, .int i 0, .ref a, .int n 0, .int ep 0]
theorem SetIt.typeIs {I a : Addr} {first : Value} {i n ep : Nat} (x : SetIt s.heap I a first i n ep) : s.TypeIs (.ref I) "set_iterator" := let ⟨o, ho, hc, _⟩ := x; ⟨o, ho, hc⟩
theorem SetIt.at {h h' : Heap} {I a : Addr} {first : Value} {i n ep : Nat} (x : SetIt h I a first i n ep) (k : ∀ o, h.get? I = some o → h'.get? I = some o) : SetIt h' I a first i n ep := let ⟨o, ho, r⟩ := x; ⟨o, k o ho, r⟩
end
end L2

set_option Elab.async false
set_option linter.all false
set_option maxRecDepth 100000
set_option maxHeartbeats 4000000
/-! MY OWN: a set walked through -/
namespace L2
open PySem PySem.Spec PyProof.Rows L2T
section
variable {prog : Program} {w : World} {A : Around} {E : Value → Shared → Prop} {s : Shared}
end
end L2

set_option Elab.async false
set_option linter.all false
set_option maxRecDepth 100000
set_option maxHeartbeats 4000000
/-! MY OWN: walks through sets; all things of a set -/
namespace L2
open PySem PySem.Spec PyProof.Rows L2T
def Keeps' (h h' : Heap) : Prop := ∀ b o, h.get? b = some o → h'.get? b = some o
theorem Keeps'.T {h h' : Heap} (k : Keeps' h h') : KeepT h h' := fun b o _ e => k b o e
section
variable {prog : Program} {w : World} {A : Around} {E : Value → Shared → Prop} {s : Shared}
end
end L2

set_option Elab.async false
set_option linter.all false
set_option maxRecDepth 100000
set_option maxHeartbeats 4000000
/-! MY OWN: a set of a list's things -/
namespace L2
open PySem PySem.Spec PyProof.Rows L2T
section
variable {prog : Program} {w : World} {A : Around} {E : Value → Shared → Prop} {s : Shared}
/-- what a set holds of the first things of a list -/
structure Part (prog : Program) (w : World) (k0 : List SK) (items : Array Value) (i : Nat) (ks : List SK) (es : Array (Int × Value)) : Prop where
  mem : ∀ k, k ∈ ks ↔ ∃ j : Nat, j < i ∧ k0[j]? = some k
  len : ks.length ≤ i
  ent : ∀ e ∈ es.toList, ∃ j : Nat, items[j]? = some e.2
end
end L2

set_option Elab.async false
set_option linter.all false
set_option maxRecDepth 100000
set_option maxHeartbeats 4000000
/-! MY OWN: set(list) -/
namespace L2
open PySem PySem.Spec PyProof.Rows L2T
section
variable {prog : Program} {w : World} {A : Around} {E : Value → Shared → Prop} {s : Shared}
end
end L2

set_option Elab.async false
set_option linter.all false
set_option maxRecDepth 100000
set_option maxHeartbeats 4000000
/-! MY OWN: sets met, joined, lessened: what they rest on -/
namespace L2
open PySem PySem.Spec PyProof.Rows L2T
section
variable {prog : Program} {w : World} {A : Around} {E : Value → Shared → Prop} {s : Shared}
end
end L2

set_option Elab.async false
set_option linter.all false
set_option maxRecDepth 100000
set_option maxHeartbeats 4000000
/-! MY OWN: & of two sets; - of two sets, by what stays -/
namespace L2
open PySem PySem.Spec PyProof.Rows L2T
section
variable {prog : Program} {w : World} {A : Around} {E : Value → Shared → Prop} {s : Shared}
theorem SetE.mono {h h' : Heap} {a : Addr} {ks : List SK} {es : Array (Int × Value)} (x : SetE prog w h a ks es) (g : ∀ o, h.get? a = some o → h'.get? a = some o) (K : KeepT h h') : SetE prog w h' a ks es :=
  let ⟨o, ep, t, ho, S⟩ := x; ⟨o, ep, t, g o ho, S.mono K⟩
theorem SetE.typeIs {a : Addr} {ks : List SK} {es : Array (Int × Value)} (x : SetE prog w s.heap a ks es) : s.TypeIs (.ref a) "set" := let ⟨o, _, _, ho, S⟩ := x; ⟨o, ho, S.ex.1⟩
/-- what was taken over so far: of the walked things, those that pass -/
structure Took (kb : List SK) (p : SK → Bool) (es0 : List (Int × Value)) (kd : List SK) (kr : List SK) (er : Array (Int × Value)) : Prop where
  mem : ∀ k, k ∈ kr ↔ k ∈ kb ∨ (k ∈ kd ∧ p k = true)
  len : kr.length ≤ kb.length + kd.length
  ent : ∀ e ∈ er.toList, e ∈ es0
end
end L2

set_option Elab.async false
set_option linter.all false
set_option maxRecDepth 100000
set_option maxHeartbeats 4000000
/-! MY OWN: & of two sets; - of two sets, by what stays -/
namespace L2
open PySem PySem.Spec PyProof.Rows L2T
section
variable {prog : Program} {w : World} {A : Around} {E : Value → Shared → Prop} {s : Shared}
theorem Es.mem {h : Heap} {ks : List SK} {es : List (Int × Value)} (x : Es prog w h ks es) {e : Int × Value} (he : e ∈ es) : ∃ k ∈ ks, e.1 = k.hash prog w ∧ k.is prog w h e.2 := by
  obtain ⟨i, hi⟩ := List.mem_iff_getElem?.mp he
  obtain ⟨k, a, b, c⟩ := x.get i e hi
  exact ⟨k, List.mem_of_getElem? a, b, c⟩
end
end L2

set_option Elab.async false
set_option linter.all false
set_option maxRecDepth 100000
set_option maxHeartbeats 4000000
/-! MY OWN: - of two sets, by what stays; a set given room; sets poured together -/
namespace L2
open PySem PySem.Spec PyProof.Rows L2T
section
variable {prog : Program} {w : World} {A : Around} {E : Value → Shared → Prop} {s : Shared}
end
end L2

set_option Elab.async false
set_option linter.all false
set_option maxRecDepth 100000
set_option maxHeartbeats 4000000
/-! MY OWN: a set poured into another one; copies; | of two sets -/
namespace L2
open PySem PySem.Spec PyProof.Rows L2T
section
variable {prog : Program} {w : World} {A : Around} {E : Value → Shared → Prop} {s : Shared}
end
end L2

set_option Elab.async false
set_option linter.all false
set_option maxRecDepth 100000
set_option maxHeartbeats 4000000
/-! MY OWN: things taken out of a set; - of two sets -/
namespace L2
open PySem PySem.Spec PyProof.Rows L2T
section
variable {prog : Program} {w : World} {A : Around} {E : Value → Shared → Prop} {s : Shared}
end
end L2

set_option Elab.async false
set_option linter.all false
set_option maxRecDepth 100000
set_option maxHeartbeats 4000000
/-! MY OWN: &, -, | of two sets -/
namespace L2
open PySem PySem.Spec PyProof.Rows L2T
section
variable {prog : Program} {w : World} {A : Around} {E : Value → Shared → Prop} {s : Shared}
end
end L2

set_option Elab.async false
set_option linter.all false
set_option maxRecDepth 100000
set_option maxHeartbeats 4000000
/-! MY OWN: &, -, | of two sets, as operations -/
namespace L2
open PySem PySem.Spec PyProof.Rows L2T
section
variable {prog : Program} {w : World} {A : Around} {E : Value → Shared → Prop} {s : Shared}
end
end L2

set_option Elab.async false
set_option linter.all false
set_option maxRecDepth 100000
set_option maxHeartbeats 4000000
/-! MY OWN ADDITIONS to the hand layer: sets of texts, of numbers, of tuples of these -/
namespace L2
open PySem PySem.Spec PyProof.Rows L2T
def D.kk : D → Key
  | .int i => .inl i
  | .str l => .inr (T l)
  | _ => .inl 0
def D.fl : D → Bool
  | .int _ => true
  | .str _ => true
  | _ => false
/-- what a set may hold: flat things (true), or tuples of flat things (false) -/
def D.hk : Bool → D → Bool
  | true, d => d.fl
  | false, .tup ds => ds.all D.fl
  | false, _ => false
section
variable (P : Program) (w : World)
end
section
variable {X : Cx} {pins : List (Addr × Obj)} {σ : St} {H : Hp} {s : Shared}
/-- a thing of the one list or of the other, with its value -/
def Src (da : List D) (xa : List V) (db : List D) (xb : List V) (dr : List D) (xr : List V) : Prop :=
  dr.length = xr.length ∧ ∀ (i : Nat) d x, dr[i]? = some d → xr[i]? = some x → ∃ j : Nat, (da[j]? = some d ∧ xa[j]? = some x) ∨ (db[j]? = some d ∧ xb[j]? = some x)
theorem Src.mem {da db dr : List D} {xa xb xr : List V} (h : Src da xa db xb dr xr) {d : D} (hd : d ∈ dr) : d ∈ da ∨ d ∈ db := by
  obtain ⟨i, hi⟩ := List.mem_iff_getElem?.mp hd
  have hil := (List.getElem?_eq_some_iff.mp hi).1
  obtain ⟨j, ⟨h1, _⟩ | ⟨h1, _⟩⟩ := h.2 i d (xr[i]'(by have := h.1; omega)) hi (List.getElem?_eq_getElem _)
  · exact .inl (List.mem_of_getElem? h1)
  · exact .inr (List.mem_of_getElem? h1)
end
end L2

set_option Elab.async false
set_option linter.all false
set_option maxRecDepth 100000
set_option maxHeartbeats 4000000
/-! sets as rules of the layer -/
namespace L2
open PySem PySem.Spec PyProof.Rows L2T
section
variable (P : Program) (w : World) (K : PySem.W.Frag)
end
section
variable {X : Cx}
end
end L2

set_option Elab.async false
set_option linter.all false
set_option maxRecDepth 100000
set_option maxHeartbeats 4000000
/-! sorted(a set) -/
namespace L2
open PySem PySem.W PyProof.Rows L2T
section
variable {prog : Program} {w : World} {A : Around} {E : Value → Shared → Prop} {s : Shared}
end
end L2

set_option Elab.async false
set_option linter.all false
set_option maxRecDepth 100000
set_option maxHeartbeats 4000000
/-! sets as rules of the layer: sorted; the judgement for sets -/
namespace L2
open PySem PySem.W PyProof.Rows L2T
section
variable (P : Program) (w : World) (K : PySem.W.Frag)
end
theorem Alike.perm {ds es : List D} (h : Alike ds) (p : es.Perm ds) : Alike es := by
  rcases h with h | h | ⟨t, ts, h⟩
  · exact .inl fun d hd => h d (p.mem_iff.mp hd)
  · exact .inr (.inl fun d hd => h d (p.mem_iff.mp hd))
  · exact .inr (.inr ⟨t, ts, fun d hd => h d (p.mem_iff.mp hd)⟩)
theorem Src.refl {ds : List D} {xs : List V} (h : ds.length = xs.length) : Src ds xs [] [] ds xs := ⟨h, fun i d x h1 h2 => ⟨i, .inl ⟨h1, h2⟩⟩⟩
section
variable {X : Cx}
end
end L2

set_option Elab.async false
set_option linter.all false
set_option maxRecDepth 100000
set_option maxHeartbeats 4000000
/-! the judgement for sets -/
namespace L2
open PySem PySem.W PyProof.Rows L2T
section
variable {P : Program} {w : World} {K : PySem.W.Frag} {G H₀ L : Hp} {ss : List Sl} {t ta tb : TE} {f : Bool} {ds da db dr : List D}
end
end L2

set_option Elab.async false
set_option linter.all false
set_option maxRecDepth 100000
set_option maxHeartbeats 4000000
/-! lists joined; names of the file's top -/
namespace L2
open PySem PySem.W PyProof.Rows L2T
section
variable {K : PySem.W.Frag} {G H₀ L : Hp} {ss : List Sl} {ta tb : TE} {da db : List D}
end
end L2

set_option Elab.async false
set_option linter.all false
set_option maxRecDepth 100000
set_option maxHeartbeats 4000000
/-! a list of ours handed to a def whose answer holds no list -/
namespace L2
open PySem PySem.W PyProof.Rows L2T
section
variable {K : PySem.W.Frag}
end
section
variable {K : PySem.W.Frag} {G H₀ L : Hp} {ss : List Sl} {i : Nat} {ta : TE} {t : TA} {d : D} {ds : List D} {pre : List D → Prop} {E : XK}
end
end L2

set_option Elab.async false
set_option linter.all false
set_option maxRecDepth 100000
set_option maxHeartbeats 4000000
/-! lists of lists of ours -/
namespace L2
open PySem PySem.W PyProof.Rows L2T
section
variable {K : PySem.W.Frag} {G H₀ L : Hp} {ss : List Sl} {i : Nat} {ta tk t1 : TE} {t : TA} {d : D} {ds : List D} {dss : List (List D)}
end
end L2

set_option Elab.async false
set_option linter.all false
set_option maxRecDepth 100000
set_option maxHeartbeats 4000000
/-! a letter made great -/
namespace L2
open PySem PySem.W PyProof.Rows L2T
section
variable {K : PySem.W.Frag} {G H₀ L : Hp} {ss : List Sl} {ta : TE}
end
end L2

set_option Elab.async false
set_option linter.all false
set_option maxRecDepth 100000
set_option maxHeartbeats 4000000
/-! a promise that tells of its answer only what it is like -/
namespace L2
open PySem PySem.W PySem.Spec PyProof.Rows
section
variable {K : PySem.W.Frag} {H : Hp} {vs : List V} {Q : VK} {X : XK} {N : List Str} {t : TS} {pre : List D → Prop} {R : List D → List D → Prop}
end
section
variable {K : PySem.W.Frag} {G H₀ L : Hp} {ss : List Sl} {t : TA} {ds : List D} {pre : List D → Prop} {R : List D → List D → Prop} {E : XK} {D0 : Ends}
end
end L2

set_option Elab.async false
set_option linter.all false
set_option maxRecDepth 100000
set_option maxHeartbeats 4000000
/-! a list taken apart into names -/
namespace L2
open PySem PySem.W PySem.Spec PyProof.Rows
section
variable {prog : Program} {w : World} {A : Around} {E : Value → Shared → Prop} {s : Shared}
end
section
variable {K : PySem.W.Frag} {G H₀ L : Hp} {ss ss' : List Sl} {t : TA} {ds r0 : List D} {pre : List D → Prop} {R : List D → List D → Prop} {E : XK} {D0 : Ends}
end
end L2

set_option Elab.async false
set_option linter.all false
set_option maxRecDepth 100000
set_option maxHeartbeats 4000000
/-! comprehensions of new lists, over range; list(reversed(x)); max of two whole numbers -/
namespace L2
open PySem PySem.W PyProof.Rows L2T
section
variable {K : PySem.W.Frag} {G H₀ L : Hp} {ss : List Sl} {ta tb t : TE}
theorem evi_range {ta : TA} {n : Int} (a : EvA K G H₀ L ss ta [.int n]) (hb : -(2 ^ 62) ≤ n ∧ n < 2 ^ 62) : EvI K G H₀ L ss (iRng1 ta) n.toNat fun i => .int (i : Int) := fun F H σ R S q =>
  a F H σ _ S fun vs F1 H1 e1 r1 => by
    rw [Reps] at r1
    obtain ⟨x, r, rfl, rx, r1⟩ := r1
    rw [Reps] at r1
    subst r1
    rw [rx.of_int]
    refine ⟨n, rfl, hb.1, hb.2, q F1 H1 _ e1 fun F2 H2 f1 h1 fh => ⟨fun i hi => ⟨hi, fun x H3 y => ?_⟩, Nat.le_refl _⟩⟩
    obtain ⟨rfl, rfl⟩ := y
    refine ⟨F2, Ext.refl fh, ?_⟩
    have e : (0 : Int) + (i : Int) = (i : Int) := by omega
    rw [e]
    exact Rep.int
theorem ev_maxI {i j : Int} (a : EvB K G H₀ L ss ta (.int i)) (b : EvB K G H₀ L ss tb (.int j)) : Ev K G H₀ L ss (tCB (fun xs H Q => ∃ i j, xs = [.int i, .int j] ∧ Q (.int (if j > i then j else i)) H) (tCons ta (tCons tb tNil))) (.int (if j > i then j else i)) := fun F H σ Q S q =>
  a F H σ _ S fun v F1 H1 e1 r1 => b F1 H1 σ _ (S.ext2 e1) fun v2 F2 H2 e2 r2 => by
    rw [r1.of_int, r2.of_int]
    exact ⟨i, j, rfl, q _ F2 H2 (e1.trans e2) Rep.int⟩
theorem ev_minI {i j : Int} (a : EvB K G H₀ L ss ta (.int i)) (b : EvB K G H₀ L ss tb (.int j)) : Ev K G H₀ L ss (tCB (fun xs H Q => ∃ i j, xs = [.int i, .int j] ∧ Q (.int (if j < i then j else i)) H) (tCons ta (tCons tb tNil))) (.int (if j < i then j else i)) := fun F H σ Q S q =>
  a F H σ _ S fun v F1 H1 e1 r1 => b F1 H1 σ _ (S.ext2 e1) fun v2 F2 H2 e2 r2 => by
    rw [r1.of_int, r2.of_int]
    exact ⟨i, j, rfl, q _ F2 H2 (e1.trans e2) Rep.int⟩
theorem ev_gt {i j : Int} (a : EvB K G H₀ L ss ta (.int i)) (b : EvB K G H₀ L ss tb (.int j)) : Ev K G H₀ L ss (tOp (rI0 fun i j => .bl (decide (j < i))) ta tb) (.bl (decide (j < i))) := ev_cmpI (g := fun i j => decide (j < i)) a b
end
end L2

set_option Elab.async false
set_option linter.all false
set_option maxRecDepth 100000
set_option maxHeartbeats 4000000
/-! promises of frozen answers that tell only what they are like; whole numbers; range from .. to .. -/
namespace L2
open PySem PySem.W PySem.Spec PyProof.Rows
def SpRD (K : PySem.W.Frag) (pre : List D → Prop) (R : List D → D → Prop) : Sp := fun vs H Q _ => ∃ G ds, Same G H ∧ Reps K G ds vs ∧ pre ds ∧ ∀ r, R ds r → ∀ v G' H', Ext G H G' H' → Rep K G' r v → Q v H'
section
variable {K : PySem.W.Frag} {H : Hp} {vs : List V} {Q : VK} {X : XK} {N : List Str} {t : TS} {pre : List D → Prop} {R : List D → D → Prop}
theorem go_spRD (h : SpRD K pre R vs H Q X) (hN : vs.length ≤ N.length) (body : ∀ G ds, pre ds → (∀ r, R ds r → RtD K G H Q r) → Go K G H G { nx := fun _ H' => Q .non H', rt := Q } (slots N.length ds) t) : t { nx := fun _ H' => Q .non H', rt := Q } (start N vs) H := by
  obtain ⟨G, ds, sm, r, hp, q⟩ := h
  exact body G ds hp (fun rs hR v F H' e r => q rs hR v F H' e r) G H _ (sat_start sm r hN)
theorem spRD_len {n : Nat} (hpre : ∀ ds, pre ds → ds.length = n) (h : SpRD K pre R vs H Q X) : vs.length = n := by
  obtain ⟨G, ds, sm, r, hp, q⟩ := h
  rw [← r.length]; exact hpre ds hp
end
section
variable {K : PySem.W.Frag} {G H₀ L : Hp} {ss : List Sl} {t : TA} {ds : List D} {pre : List D → Prop} {R : List D → D → Prop} {E : XK} {D0 : Ends} {ta tb te : TE} {i j : Int}
/-- g = f(..) -/
theorem go_asgRD {g : TG} (a : EvAF K G H₀ L ss t ds) (hp : pre ds) (h : ∀ r, R ds r → ∃ ss', Tg K G H₀ L g r ss ss' ∧ Nx K G H₀ L D0.nx ss') : Go K G H₀ L D0 ss (tAsg (tCall (SpRD K pre R) [] E t) g) := fun F H σ S =>
  a F H σ _ S fun vs F1 H1 e1 r1 => ⟨F1, ds, e1.fh, by rw [List.append_nil]; exact r1, hp, fun r hR v G' H' e2 rr => by
    obtain ⟨ss', tg, nx⟩ := h r hR
    exact tg _ H' σ _ _ (S.ext2 (e1.trans e2)) rr fun σ' S' => nx _ H' σ' S'⟩
theorem ev_isI (a : EvB K G H₀ L ss te (.int i)) : Ev K G H₀ L ss (tCB (fun xs H Q => ∃ x, xs = [.int x, .ty "int"] ∧ Q (.bl true) H) (tCons te (tCons (tC (.ty "int")) tNil))) (.bl true) := fun F H σ Q S q =>
  a F H σ _ S fun v F1 H1 e1 r1 => ⟨i, by rw [r1.of_int], q _ _ _ e1 Rep.bl⟩
theorem ev_isIB (a : EvB K G H₀ L ss te (.int i)) : Ev K G H₀ L ss (tCB (fun xs H Q => ∃ x, xs = [.int x, .ty "bool"] ∧ Q (.bl false) H) (tCons te (tCons (tC (.ty "bool")) tNil))) (.bl false) := fun F H σ Q S q =>
  a F H σ _ S fun v F1 H1 e1 r1 => ⟨i, by rw [r1.of_int], q _ _ _ e1 Rep.bl⟩
theorem ev_neg (a : EvB K G H₀ L ss te (.int i)) : Ev K G H₀ L ss (tUn (rU fun i => .int (-i)) te) (.int (-i)) := fun F H σ Q S q =>
  a F H σ _ S fun v F1 H1 e1 r1 => ⟨i, by rw [r1.of_int], q _ _ _ e1 Rep.int⟩
theorem ev_pow (a : EvB K G H₀ L ss ta (.int i)) (b : EvB K G H₀ L ss tb (.int j)) (h : CPow i j) : Ev K G H₀ L ss (tOp (rI CPow fun i j => .int (i ^ j.toNat)) ta tb) (.int (i ^ j.toNat)) := ev_opI (C := CPow) (g := fun i j => i ^ j.toNat) a b h
/-- over range(m, n) -/
theorem go_range2 {ta : TA} {x : Nat} {tb : TS} {m n : Int} (I : Nat → List Sl → Prop) (a : EvA K G H₀ L ss ta [.int m, .int n]) (hm : -(2 ^ 62) ≤ m ∧ m < 2 ^ 62) (hb : -(2 ^ 62) ≤ n ∧ n < 2 ^ 62) (h0 : I 0 ss)
    (hs : ∀ (k : Nat) ss, m + (k : Int) < n → I k ss → ∀ N, (∀ ss, I (k + 1) ss → Nx K G H₀ L N ss) → Go K G H₀ L { D0 with nx := N, ct := N, bk := D0.nx } (ss.set x (.d (.int (m + (k : Int))))) tb)
    (hd : ∀ ss, I (n - m).toNat ss → Nx K G H₀ L D0.nx ss) : Go K G H₀ L D0 ss (tFor (iRng2 ta) (gName x) tb) := fun F H σ S => by
  refine (a F H σ _ S fun vs F1 H1 e1 r1 => ?_)
  rw [Reps] at r1
  obtain ⟨v1, r, rfl, rx, r1⟩ := r1
  rw [Reps] at r1
  obtain ⟨v2, r, rfl, rx2, r1⟩ := r1
  rw [Reps] at r1
  subst r1
  rw [rx.of_int, rx2.of_int]
  refine ⟨m, n, rfl, ⟨hm.1, hm.2, hb.1, hb.2⟩, fun i k σ' H' => k = (n - m).toNat - i ∧ i ≤ (n - m).toNat ∧ At K G H₀ L (I i) σ' H', ⟨_, rfl, Nat.zero_le _, ss, F1, S.ext2 e1, h0⟩, ?_⟩
  rintro i k σ' H' ⟨rfl, hi, ss1, F2, S2, h2⟩
  by_cases hlt : i < (n - m).toNat
  · refine .inr ⟨hlt, fun σ'' H'' => At K G H₀ L (I (i + 1)) σ'' H'', fun σ'' H'' h => ⟨(n - m).toNat - (i + 1), by omega, rfl, hlt, h⟩, fun x H'' y => ?_⟩
    obtain ⟨rfl, rfl⟩ := y
    exact hs i ss1 (by omega) h2 _ (fun ss h => nx_at h) F2 _ _ (S2.setD Rep.int)
  · have e : i = (n - m).toNat := by omega
    subst e
    exact .inl ⟨Nat.le_refl _, hd ss1 h2 F2 H' σ' S2⟩
end
end L2

set_option Elab.async false
set_option linter.all false
set_option maxRecDepth 100000
set_option maxHeartbeats 4000000
/-! split at blanks, a few times -/
namespace L2
open PySem PySem.W PySem.Spec PyProof.Rows PySem.Builtin PySem.Builtin.Str PySem.StrLaws
end L2

set_option Elab.async false
set_option linter.all false
set_option maxRecDepth 100000
set_option maxHeartbeats 4000000
/-! rows: split, tuple(), chains of comparisons, ord, range with a step -/
namespace L2
open PySem PySem.W PySem.Spec PyProof.Rows PySem.Builtin PySem.Builtin.Str
section
variable {K : PySem.W.Frag} {G H₀ L : Hp} {ss : List Sl} {ta tb tc t1 t2 te : TE} {ds : List D}
end
end L2

set_option Elab.async false
set_option linter.all false
set_option maxRecDepth 100000
set_option maxHeartbeats 4000000
/-! promises with an unseen thing; chains; signs; range with a step -/
namespace L2
open PySem PySem.W PySem.Spec PyProof.Rows
section
variable {α : Type} {K : PySem.W.Frag} {H : Hp} {vs : List V} {Q : VK} {X : XK} {N : List Str} {t : TS} {pre : α → List D → Prop} {res : α → D}
end
section
variable {X : Cx}
end
section
variable {α : Type} {K : PySem.W.Frag} {G H₀ L : Hp} {ss : List Sl} {ta tb tc te : TE} {t : TA} {ds : List D} {E : XK} {pre : α → List D → Prop} {res : α → D}
theorem ev_intB {b : Bool} (a : EvB K G H₀ L ss te (.bl b)) : Ev K G H₀ L ss (tCB (fun xs H Q => (∃ i, xs = [.int i] ∧ Q (.int i) H) ∨ ∃ k : Bool, xs = [.bl k] ∧ Q (.int (if k then 1 else 0)) H) (tCons te tNil)) (.int (if b then 1 else 0)) := fun F H σ Q S q =>
  a F H σ _ S fun v F1 H1 e1 r1 => .inr ⟨b, by rw [r1.of_bl], q _ _ _ e1 Rep.int⟩
end
/-! range(i, j, c) -/
section
variable {X : Cx} {e1 e2 e3 : Expr} {ta : TA} {p pos : Pos} {tg : Expr}
end
section
variable {K : PySem.W.Frag} {G H₀ L : Hp} {ss : List Sl} {D0 : Ends}
end
/-! comprehensions over the signs of a text, over a tuple -/
section
variable {K : PySem.W.Frag} {G H₀ L : Hp} {ss : List Sl}
end
end L2

set_option Elab.async false
set_option linter.all false
set_option maxRecDepth 100000
set_option maxHeartbeats 4000000
/-! dicts of ours: keys whole numbers or texts -/
namespace L2
open PySem PySem.W PySem.Spec PyProof.Rows
/-- a key -/
def D.isK : D → Bool
  | .int _ => true | .str _ => true | _ => false
def D.key : D → Key
  | .int i => .inl i | .str l => .inr (T l) | _ => .inl 0
theorem key_inj {a b : D} (ha : a.isK = true) (hb : b.isK = true) (h : a.key = b.key) : a = b := by
  cases a <;> cases b <;> simp [D.isK, D.key] at * <;> first | exact h | exact T_inj.mp h
theorem rep_key {K : PySem.W.Frag} {H : Hp} {d : D} {v : V} (hk : d.isK = true) (r : Rep K H d v) : v = kV d.key := by
  cases d <;> simp [D.isK] at hk
  · exact r.of_int
  · exact r.of_str
abbrev DD := List (D × D)
def valD (kvs : DD) (k : D) : Option D := (kvs.find? fun kv => decide (kv.1 = k)).map (·.2)
def putD (kvs : DD) (k d : D) : DD := if (kvs.any fun kv => decide (kv.1 = k)) = true then kvs.map (fun kv => if kv.1 = k then (kv.1, d) else kv) else kvs ++ [(k, d)]
/-- the pairs in the heap stand for these -/
inductive Dks (K : PySem.W.Frag) (F : Hp) : DD → List (Key × V) → Prop
  | nil : Dks K F [] []
  | cons {k d : D} {v : V} {kvs : DD} {xs : List (Key × V)} (hk : k.isK = true) (r : Rep K F d v) (t : Dks K F kvs xs) : Dks K F ((k, d) :: kvs) ((k.key, v) :: xs)
section
variable {K : PySem.W.Frag} {F F' : Hp} {kvs : DD} {xs : List (Key × V)}
theorem Dks.mono (h : Dks K F kvs xs) (s : Same F F') : Dks K F' kvs xs := by
  induction h with
  | nil => exact .nil
  | cons hk r t ih => exact .cons hk (r.mono s) ih
theorem Dks.length (h : Dks K F kvs xs) : kvs.length = xs.length := by
  induction h with
  | nil => rfl
  | cons hk r t ih => simp [ih]
theorem Dks.val (h : Dks K F kvs xs) {k : D} (hk : k.isK = true) : (valD kvs k = none ∧ valV xs k.key = none) ∨ ∃ d v, valD kvs k = some d ∧ valV xs k.key = some v ∧ Rep K F d v := by
  induction h with
  | nil => exact .inl ⟨rfl, rfl⟩
  | @cons k' d v kvs xs hk' r t ih =>
    by_cases e : k' = k
    · subst e
      exact .inr ⟨d, v, by simp [valD], by simp [valV], r⟩
    · have e2 : k'.key ≠ k.key := fun z => e (key_inj hk' hk z)
      have h1 : valD ((k', d) :: kvs) k = valD kvs k := by simp [valD, List.find?_cons, e]
      have h2 : valV ((k'.key, v) :: xs) k.key = valV xs k.key := by simp [valV, List.find?_cons, e2]
      rw [h1, h2]; exact ih
theorem Dks.any (h : Dks K F kvs xs) {k : D} (hk : k.isK = true) : (kvs.any fun kv => decide (kv.1 = k)) = xs.any fun kv => decide (kv.1 = k.key) := by
  induction h with
  | nil => rfl
  | @cons k' d v kvs xs hk' r t ih =>
    rw [List.any_cons, List.any_cons, ih]
    congr 1
    by_cases e : k' = k
    · subst e; simp
    · have e2 : k'.key ≠ k.key := fun z => e (key_inj hk' hk z)
      rw [decide_eq_false e, decide_eq_false e2]
theorem Dks.snoc (h : Dks K F kvs xs) {k d : D} {v : V} (hk : k.isK = true) (r : Rep K F d v) : Dks K F (kvs ++ [(k, d)]) (xs ++ [(k.key, v)]) := by
  induction h with
  | nil => exact .cons hk r .nil
  | cons hk' r' t ih => exact .cons hk' r' ih
theorem Dks.put (h : Dks K F kvs xs) {k d : D} {v : V} (hk : k.isK = true) (r : Rep K F d v) : Dks K F (putD kvs k d) (putK xs k.key v) := by
  unfold putD putK
  rw [h.any hk]
  by_cases hc : (xs.any fun kv => decide (kv.1 = k.key)) = true
  · rw [if_pos hc, if_pos hc]
    clear hc
    induction h with
    | nil => exact .nil
    | @cons k' d' v' kvs xs hk' r' t ih =>
      rw [List.map_cons, List.map_cons]
      by_cases e : k' = k
      · subst e; rw [if_pos rfl, if_pos rfl]; exact .cons hk' r ih
      · have e2 : k'.key ≠ k.key := fun z => e (key_inj hk' hk z)
        rw [if_neg e, if_neg e2]; exact .cons hk' r' ih
  · rw [if_neg hc, if_neg hc]; exact h.snoc hk r
end
/-- a dict of ours at p -/
def dW (K : PySem.W.Frag) (p : Addr) (kvs : DD) : Hp → Hp → Prop := fun F H => ∃ xs, H p = some (.dK xs) ∧ Dks K F kvs xs
def dsl (K : PySem.W.Frag) (p : Addr) (kvs : DD) : Sl := .g (.ref p) [p] (dW K p kvs)
theorem dW_stab (K : PySem.W.Frag) (p : Addr) (kvs : DD) : Stab [p] (dW K p kvs) := fun F1 H1 F2 H2 sf hh ⟨xs, h1, h2⟩ => ⟨xs, by rw [hh p (by simp)]; exact h1, h2.mono sf⟩
section
variable {K : PySem.W.Frag} {G H₀ L : Hp} {ss : List Sl} {i : Nat} {p : Addr} {kvs : DD} {E : Ends} {ty td tv tx : TE} {k d z : D}
theorem Sat.getM {F H : Hp} {σ : St} (S : Sat K G H₀ L F H σ ss) (hs : ss[i]? = some (dsl K p kvs)) : σ[i]? = some (some (.ref p)) ∧ H₀ p = none ∧ F p = none ∧ ∃ xs, H p = some (.dK xs) ∧ Dks K F kvs xs := by
  obtain ⟨v, e, ew, ha, hw, st⟩ := S.get hs (by intro z; cases z)
  cases ew
  obtain ⟨h0, fp, _⟩ := ha p (by simp)
  exact ⟨e, h0, fp, hw⟩
/-- the dict in slot i is changed -/
theorem Sat.writeM {F H : Hp} {σ : St} {kvs' : DD} {xs : List (Key × V)} (S : Sat K G H₀ L F H σ ss) (hs : ss[i]? = some (dsl K p kvs)) (r : Dks K F kvs' xs) : Sat K G H₀ L F (upd H p (.dK xs)) σ (ss.set i (dsl K p kvs')) := by
  obtain ⟨e, h0, fp, ys, hp, _⟩ := S.getM hs
  have hget : σ.getD i none = some (.ref p) := by rw [List.getD_eq_getElem?_getD, e]; rfl
  refine S.put (S.ext.write fp h0) S.fl rfl (fun _ _ => rfl) (fun _ => ?_) (by simp [dsl, Sl.ads]) (fun j s' hj h q hq => ?_) fun j s' hj h => (S.ok j s' h).updNe (S.ne i j _ s' (Ne.symm hj) hs h p (by simp [dsl, Sl.ads]))
  · rw [hget]
    exact ⟨rfl, fun a ha => by rw [List.mem_singleton.mp ha]; exact ⟨h0, fp, _, upd_same⟩, ⟨xs, upd_same, r⟩, dW_stab K p kvs'⟩
  · have : q = p := by simpa [dsl, Sl.ads] using hq
    subst this
    exact S.ne i j _ s' (Ne.symm hj) hs h q (by simp [dsl, Sl.ads])
/-- x = {} -/
theorem go_setM (h : ∀ p, Nx K G H₀ L E.nx (ss.set i (dsl K p []))) : Go K G H₀ L E ss (tAsg tDNewK (gName i)) := fun F H σ S p hp => by
  have e := (Ext.refl S.ext.fh).newO (o := .dK []) hp
  have S' := S.ext2 e
  refine h p F _ _ (S'.put S'.ext S'.fl (by simp) (fun j hj => getD_set_ne (Ne.symm hj)) (fun hi => ?_) (by simp [dsl, Sl.ads]) (fun j s' hj hs q hq => ?_) fun j s' hj hs => S'.ok j s' hs)
  · rw [getD_set_self (by rw [S.len]; exact hi)]
    exact ⟨rfl, fun a ha => by rw [List.mem_singleton.mp ha]; exact ⟨S.ext.hh.free hp, S.ext.fh.free hp, _, upd_same⟩, ⟨[], upd_same, .nil⟩, dW_stab K p []⟩
  · have : q = p := by simpa [dsl, Sl.ads] using hq
    subst this
    exact fun hin => (S.ok j s' hs).live hin hp
/-- d[k], there -/
theorem ev_dget (hs : ss[i]? = some (dsl K p kvs)) (b : EvB K G H₀ L ss ty k) (hk : k.isK = true) (hv : valD kvs k = some d) : Ev K G H₀ L ss (tDGet (tVar i) ty) d := fun F H σ Q S q => by
  obtain ⟨e, _⟩ := S.getM hs
  refine ⟨_, e, b F H σ _ S fun v F1 H1 e1 r1 => ?_⟩
  obtain ⟨_, _, _, xs, hp, dk⟩ := (S.ext2 e1).getM hs
  rcases dk.val hk with ⟨h1, _⟩ | ⟨d', w, h1, h2, rw'⟩
  · rw [h1] at hv; cases hv
  · rw [h1] at hv; cases hv
    refine ⟨p, w, rfl, ?_, q w F1 H1 e1 rw'⟩
    rw [rep_key hk r1, ← h2]
    exact DGet.k hp
theorem ev_din (hs : ss[i]? = some (dsl K p kvs)) (b : EvB K G H₀ L ss ty k) (hk : k.isK = true) : Ev K G H₀ L ss (tDIn ty (tVar i)) (.bl (valD kvs k).isSome) := fun F H σ Q S q =>
  b F H σ _ S fun v F1 H1 e1 r1 => by
    obtain ⟨e, _, _, xs, hp, dk⟩ := (S.ext2 e1).getM hs
    refine ⟨_, e, p, valV xs k.key, rfl, by rw [rep_key hk r1]; exact DGet.k hp, q _ F1 H1 e1 ?_⟩
    have : (valV xs k.key).isSome = (valD kvs k).isSome := by
      rcases dk.val hk with ⟨h1, h2⟩ | ⟨d', w, h1, h2, _⟩ <;> rw [h1, h2] <;> rfl
    rw [this]; exact Rep.bl
/-- d[k] = v -/
theorem go_dput (hs : ss[i]? = some (dsl K p kvs)) (a : Ev K G H₀ L ss tv d) (b : EvB K G H₀ L ss ty k) (hk : k.isK = true) (hz : kvs.length < sizeLine) (h : Nx K G H₀ L E.nx (ss.set i (dsl K p (putD kvs k d)))) : Go K G H₀ L E ss (sDPut (tVar i) ty tv) := fun F H σ S =>
  a F H σ _ S fun v F1 H1 e1 r1 => by
    have S1 := S.ext2 e1
    obtain ⟨e, _⟩ := S1.getM hs
    refine ⟨_, e, b F1 H1 σ _ S1 fun w F2 H2 e2 r2 => ?_⟩
    have S2 := S1.ext2 e2
    obtain ⟨_, _, _, xs, hp, dk⟩ := S2.getM hs
    refine ⟨p, _, rfl, by rw [rep_key hk r2]; exact DPut.k (v := v) hp (by rw [← dk.length]; exact hz), h F2 _ σ (S2.writeM hs (dk.put hk (r1.mono e2.gf)))⟩
end
end L2

set_option Elab.async false
set_option linter.all false
set_option maxRecDepth 100000
set_option maxHeartbeats 4000000
/-! dicts of ours whose values are lists of ours -/
namespace L2
open PySem PySem.W PySem.Spec PyProof.Rows
abbrev KQ := List (D × Addr × List D)
def dat (q : D × Addr × List D) : D × List D := (q.1, q.2.2)
def raw (q : D × Addr × List D) : Key × V := (q.1.key, .ref q.2.1)
def appD : List (D × List D) → D → D → List (D × List D)
  | [], k, d => [(k, [d])]
  | kv :: r, k, d => if kv.1 = k then (kv.1, kv.2 ++ [d]) :: r else kv :: appD r k d
theorem find_at {kqs : KQ} {k : D} (hk : k.isK = true) (hks : ∀ q ∈ kqs, q.1.isK = true) : (valV (kqs.map raw) k.key = none ∧ ∀ d, appD (kqs.map dat) k d = kqs.map dat ++ [(k, [d])]) ∨
    ∃ j a ds, kqs[j]? = some (k, a, ds) ∧ valV (kqs.map raw) k.key = some (.ref a) ∧ ∀ d, (kqs.set j (k, a, ds ++ [d])).map dat = appD (kqs.map dat) k d := by
  induction kqs with
  | nil => exact .inl ⟨rfl, fun _ => rfl⟩
  | cons q r ih =>
    obtain ⟨k', a', ds'⟩ := q
    by_cases e : k' = k
    · subst e
      refine .inr ⟨0, a', ds', rfl, by simp [valV, raw], fun d => ?_⟩
      show (k', ds' ++ [d]) :: r.map dat = appD ((k', ds') :: r.map dat) k' d
      rw [appD, if_pos rfl]
    · have e2 : k'.key ≠ k.key := fun z => e (key_inj (hks _ List.mem_cons_self) hk z)
      have hv : valV (((k', a', ds') :: r).map raw) k.key = valV (r.map raw) k.key := by simp [valV, raw, List.find?_cons, e2]
      have ha : ∀ d, appD (((k', a', ds') :: r).map dat) k d = (k', ds') :: appD (r.map dat) k d := fun d => by
        show appD ((k', ds') :: r.map dat) k d = _
        rw [appD, if_neg e]
      rw [hv]
      rcases ih fun q hq => hks q (List.mem_cons_of_mem _ hq) with ⟨h1, h2⟩ | ⟨j, a, ds, h1, h2, h3⟩
      · exact .inl ⟨h1, fun d => by rw [ha, h2]; rfl⟩
      · refine .inr ⟨j + 1, a, ds, h1, h2, fun d => ?_⟩
        rw [ha, ← h3]; rfl
def lW (K : PySem.W.Frag) (p : Addr) (kqs : KQ) : Hp → Hp → Prop := fun F H => H p = some (.dK (kqs.map raw)) ∧ ∀ q ∈ kqs, q.1.isK = true ∧ ∃ vs, H q.2.1 = some (.lst vs) ∧ Reps K F q.2.2 vs
def dls (K : PySem.W.Frag) (p : Addr) (kqs : KQ) : Sl := .g (.ref p) (p :: kqs.map (·.2.1)) (lW K p kqs)
theorem lW_stab (K : PySem.W.Frag) (p : Addr) (kqs : KQ) : Stab (p :: kqs.map (·.2.1)) (lW K p kqs) := fun F1 H1 F2 H2 sf hh ⟨h1, h2⟩ =>
  ⟨by rw [hh p (by simp)]; exact h1, fun q hq => by
    obtain ⟨a, vs, b, c⟩ := h2 q hq
    exact ⟨a, vs, by rw [hh q.2.1 (List.mem_cons_of_mem _ (List.mem_map_of_mem hq))]; exact b, c.mono sf⟩⟩
section
variable {K : PySem.W.Frag} {G H₀ L : Hp} {ss : List Sl} {i : Nat} {p : Addr} {kqs : KQ} {E : Ends} {tk tv : TE} {k d : D}
theorem Sat.getL {F H : Hp} {σ : St} (S : Sat K G H₀ L F H σ ss) (hs : ss[i]? = some (dls K p kqs)) : σ[i]? = some (some (.ref p)) ∧ (∀ a ∈ p :: kqs.map (·.2.1), H₀ a = none ∧ F a = none) ∧ lW K p kqs F H := by
  obtain ⟨v, e, ew, ha, hw, st⟩ := S.get hs (by intro z; cases z)
  cases ew
  exact ⟨e, fun a h => ⟨(ha a h).1, (ha a h).2.1⟩, hw⟩
/-- x = {} -/
theorem go_setML (h : ∀ p, Nx K G H₀ L E.nx (ss.set i (dls K p []))) : Go K G H₀ L E ss (tAsg tDNewK (gName i)) := fun F H σ S p hp => by
  have e := (Ext.refl S.ext.fh).newO (o := .dK []) hp
  have S' := S.ext2 e
  refine h p F _ _ (S'.put S'.ext S'.fl (by simp) (fun j hj => getD_set_ne (Ne.symm hj)) (fun hi => ?_) (by simp [dls, Sl.ads]) (fun j s' hj hs q hq => ?_) fun j s' hj hs => S'.ok j s' hs)
  · rw [getD_set_self (by rw [S.len]; exact hi)]
    exact ⟨rfl, fun a ha => by rw [List.mem_singleton.mp ha]; exact ⟨S.ext.hh.free hp, S.ext.fh.free hp, _, upd_same⟩, ⟨upd_same, fun _ h => by cases h⟩, lW_stab K p []⟩
  · have : q = p := by simpa [dls, Sl.ads] using hq
    subst this
    exact fun hin => (S.ok j s' hs).live hin hp
theorem set_same {α : Type} {xs : List α} {i : Nat} {x : α} (h : xs[i]? = some x) : xs.set i x = xs := by
  refine List.ext_getElem? fun n => ?_
  by_cases hn : i = n
  · subst hn; rw [List.getElem?_set_self (List.getElem?_eq_some_iff.mp h).1, h]
  · rw [List.getElem?_set_ne hn]
/-- one of its lists is changed -/
theorem Sat.appL {F H : Hp} {σ : St} (S : Sat K G H₀ L F H σ ss) {j : Nat} {a : Addr} {ds es : List D} {vs : List V} (hs : ss[i]? = some (dls K p kqs)) (hj : kqs[j]? = some (k, a, ds)) (r : Reps K F es vs) :
    Sat K G H₀ L F (upd H a (.lst vs)) σ (ss.set i (dls K p (kqs.set j (k, a, es)))) := by
  obtain ⟨e, hoff, hp, hq⟩ := S.getL hs
  have hget : σ.getD i none = some (.ref p) := by rw [List.getD_eq_getElem?_getD, e]; rfl
  have hnd : (p :: kqs.map (·.2.1)).Nodup := S.nd i _ hs
  have hm := List.mem_of_getElem? hj
  have ham : a ∈ p :: kqs.map (·.2.1) := List.mem_cons_of_mem _ (List.mem_map.mpr ⟨_, hm, rfl⟩)
  obtain ⟨a0, af⟩ := hoff a ham
  have hpa : p ≠ a := fun z => (List.nodup_cons.mp hnd).1 (z ▸ List.mem_map.mpr ⟨_, hm, rfl⟩)
  have mset : ∀ {β : Type} (f : D × Addr × List D → β), f (k, a, es) = f (k, a, ds) → (kqs.set j (k, a, es)).map f = kqs.map f := fun {β} f hf => by
    rw [List.map_set]
    refine List.ext_getElem? fun n => ?_
    by_cases hn : j = n
    · subst hn
      rw [List.getElem?_set_self (by rw [List.length_map]; exact (List.getElem?_eq_some_iff.mp hj).1), List.getElem?_map, hj, hf]; rfl
    · rw [List.getElem?_set_ne hn]
  have hads : (dls K p (kqs.set j (k, a, es))).ads = p :: kqs.map (·.2.1) := by show p :: (kqs.set j (k, a, es)).map (·.2.1) = _; rw [mset (·.2.1) rfl]
  have hdup : ∀ n z, kqs[n]? = some z → n ≠ j → z.2.1 ≠ a := fun n z hn hnj hz => by
    have h2 : (kqs.map (·.2.1)).Nodup := (List.nodup_cons.mp hnd).2
    unfold List.Nodup at h2
    rw [List.pairwise_iff_getElem] at h2
    have hnl := (List.getElem?_eq_some_iff.mp hn)
    have hjl := (List.getElem?_eq_some_iff.mp hj)
    have e1 : (kqs.map (·.2.1))[n]'(by simpa using hnl.1) = a := by rw [List.getElem_map, hnl.2]; exact hz
    have e2 : (kqs.map (·.2.1))[j]'(by simpa using hjl.1) = a := by rw [List.getElem_map, hjl.2]
    rcases Nat.lt_or_ge n j with c | c
    · exact h2 n j (by simpa using hnl.1) (by simpa using hjl.1) c (e1.trans e2.symm)
    · exact h2 j n (by simpa using hjl.1) (by simpa using hnl.1) (by omega) (e2.trans e1.symm)
  refine S.put (S.ext.write af a0) S.fl rfl (fun _ _ => rfl) (fun _ => ?_) (by rw [hads]; exact hnd) (fun n s' hn h z hz => ?_) fun n s' hn h => (S.ok n s' h).updNe (S.ne i n _ s' (Ne.symm hn) hs h a ham)
  · rw [hget]
    refine ⟨rfl, fun b hb => ?_, ⟨by rw [upd_ne hpa, mset raw rfl]; exact hp, fun z hz => ?_⟩, lW_stab _ _ _⟩
    · have hb : b ∈ p :: (kqs.set j (k, a, es)).map (·.2.1) := hb
      rw [mset (·.2.1) rfl] at hb
      obtain ⟨b0, bf⟩ := hoff b hb
      refine ⟨b0, bf, ?_⟩
      by_cases hba : b = a
      · subst hba; exact ⟨_, upd_same⟩
      · rw [upd_ne hba]
        have := (S.ok i _ hs).live (p := b) hb
        cases hx : H b with
        | none => exact absurd hx this
        | some o => exact ⟨o, rfl⟩
    · obtain ⟨n, hn⟩ := List.mem_iff_getElem?.mp hz
      by_cases hnj : j = n
      · subst hnj
        rw [List.getElem?_set_self (List.getElem?_eq_some_iff.mp hj).1] at hn
        cases hn
        exact ⟨(hq _ hm).1, vs, upd_same, r⟩
      · rw [List.getElem?_set_ne hnj] at hn
        obtain ⟨z1, ws, z2, z3⟩ := hq z (List.mem_of_getElem? hn)
        exact ⟨z1, ws, by rw [upd_ne (hdup n z hn (Ne.symm hnj))]; exact z2, z3⟩
  · have hz : z ∈ (dls K p (kqs.set j (k, a, es))).ads := hz
    rw [hads] at hz
    exact S.ne i n _ s' (Ne.symm hn) hs h z hz
/-- a new key, with a new list -/
theorem Sat.keyL {F H : Hp} {σ : St} (S : Sat K G H₀ L F H σ ss) {l : Addr} (hs : ss[i]? = some (dls K p kqs)) (hk : k.isK = true) (hl : H l = none) :
    Sat K G H₀ L F (upd (upd H l (.lst [])) p (.dK ((kqs ++ [(k, l, [])]).map raw))) σ (ss.set i (dls K p (kqs ++ [(k, l, [])]))) := by
  have S2 := S.ext2 ((Ext.refl S.ext.fh).newO (o := .lst []) hl)
  obtain ⟨e, hoff, hp, hq⟩ := S2.getL hs
  have hget : σ.getD i none = some (.ref p) := by rw [List.getD_eq_getElem?_getD, e]; rfl
  have hnd : (p :: kqs.map (·.2.1)).Nodup := S.nd i _ hs
  obtain ⟨p0, pf⟩ := hoff p List.mem_cons_self
  have hnl : ∀ b ∈ p :: kqs.map (·.2.1), b ≠ l := fun b hb z => (S.ok i _ hs).live (p := b) hb (z ▸ hl)
  have hpl : p ≠ l := hnl p List.mem_cons_self
  have hads : (dls K p (kqs ++ [(k, l, [])])).ads = (p :: kqs.map (·.2.1)) ++ [l] := by show p :: List.map (fun q : D × Addr × List D => q.2.1) (kqs ++ [(k, l, [])]) = _; rw [List.map_append]; rfl
  refine S2.put (S2.ext.write pf p0) S2.fl rfl (fun _ _ => rfl) (fun _ => ?_) ?_ (fun n s' hn h z hz => ?_) fun n s' hn h => (S2.ok n s' h).updNe (S2.ne i n _ s' (Ne.symm hn) hs h p List.mem_cons_self)
  · rw [hget]
    refine ⟨rfl, fun b hb => ?_, ⟨upd_same, fun z hz => ?_⟩, lW_stab _ _ _⟩
    · have hb : b ∈ (dls K p (kqs ++ [(k, l, [])])).ads := hb
      rw [hads] at hb
      rcases List.mem_append.mp hb with hb | hb
      · obtain ⟨b0, bf⟩ := hoff b hb
        refine ⟨b0, bf, ?_⟩
        by_cases hbp : b = p
        · subst hbp; exact ⟨_, upd_same⟩
        · rw [upd_ne hbp]
          have := (S2.ok i _ hs).live (p := b) hb
          cases hx : (upd H l (.lst [])) b with
          | none => exact absurd hx this
          | some o => exact ⟨o, rfl⟩
      · rw [List.mem_singleton.mp hb]
        exact ⟨S.ext.hh.free hl, S.ext.fh.free hl, _, by rw [upd_ne (Ne.symm hpl)]; exact upd_same⟩
    · rcases List.mem_append.mp hz with hz | hz
      · obtain ⟨z1, ws, z2, z3⟩ := hq z hz
        have hzp : z.2.1 ≠ p := fun e => (List.nodup_cons.mp hnd).1 (e ▸ List.mem_map_of_mem hz)
        exact ⟨z1, ws, by rw [upd_ne hzp]; exact z2, z3⟩
      · rw [List.mem_singleton.mp hz]
        exact ⟨hk, [], by rw [upd_ne (Ne.symm hpl)]; exact upd_same, Reps.nil⟩
  · rw [hads]
    exact List.nodup_append.mpr ⟨hnd, by simp, fun x hx y hy e => by rw [List.mem_singleton.mp hy] at e; exact hnl x hx e⟩
  · have hz : z ∈ (dls K p (kqs ++ [(k, l, [])])).ads := hz
    rw [hads] at hz
    rcases List.mem_append.mp hz with hz | hz
    · exact S.ne i n _ s' (Ne.symm hn) hs h z hz
    · rw [List.mem_singleton.mp hz]
      exact fun hin => (S.ok n s' h).live hin hl
/-- x.setdefault(k, []).append(v) -/
theorem go_dapp (hs : ss[i]? = some (dls K p kqs)) (b : EvB K G H₀ L ss tk k) (hk : k.isK = true) (a : ∀ kqs', Ev K G H₀ L (ss.set i (dls K p kqs')) tv d) (hz : kqs.length < sizeLine) (hz2 : ∀ q ∈ kqs, q.2.2.length < sizeLine)
    (h : ∀ kqs', kqs'.map dat = appD (kqs.map dat) k d → Nx K G H₀ L E.nx (ss.set i (dls K p kqs'))) :
    Go K G H₀ L E ss (tDrop (tBM K "list" rAppend (tBM K "dict" rSetDef (tVar i) (tCons tk (tCons (tLst tNil) tNil))) (tCons tv tNil))) := fun F H σ S => by
  obtain ⟨e, hoff, hp, hq⟩ := S.getL hs
  have hks : ∀ q ∈ kqs, q.1.isK = true := fun q hm => (hq q hm).1
  have hil : i < ss.length := (List.getElem?_eq_some_iff.mp hs).1
  refine ⟨.ref p, e, .inr (.inr (.inl ⟨rfl, .inl ⟨_, hp⟩⟩)), b F H σ _ S fun v F1 H1 e1 r1 => ⟨Nat.zero_le _, fun l hl => ?_⟩⟩
  have S1 := S.ext2 e1
  have S2 := S1.ext2 ((Ext.refl S1.ext.fh).newO (o := .lst []) hl)
  obtain ⟨_, _, hp2, hq2⟩ := S2.getL hs
  refine ⟨p, kqs.map raw, k.key, .ref l, rfl, by rw [rep_key hk r1], hp2, by rw [List.length_map]; exact hz, fun v' hv' => ?_, fun hn => ?_⟩
  · rcases find_at hk hks with ⟨h1, _⟩ | ⟨j, q, ds, h1, h2, h3⟩
    · rw [h1] at hv'; cases hv'
    · rw [h2] at hv'; cases hv'
      obtain ⟨_, ws, hw, _⟩ := hq2 _ (List.mem_of_getElem? h1)
      have es : ss.set i (dls K p kqs) = ss := set_same hs
      have S2' : Sat K G H₀ L F1 (upd H1 l (.lst [])) σ (ss.set i (dls K p kqs)) := by rw [es]; exact S2
      refine ⟨.inl ⟨rfl, _, SqL.of hw⟩, a kqs F1 _ σ _ S2' fun w F3 H3 e3 r3 => ?_⟩
      have S3 := S2.ext2 e3
      obtain ⟨_, _, _, hq3⟩ := S3.getL hs
      obtain ⟨_, ws3, hw3, rs3⟩ := hq3 _ (List.mem_of_getElem? h1)
      refine ⟨q, ws3, w, rfl, rfl, hw3, by rw [← rs3.length]; exact hz2 _ (List.mem_of_getElem? h1), h _ (h3 d) F3 _ σ (S3.appL hs h1 (rs3.snoc r3))⟩
  · rcases find_at hk hks with ⟨h1, h2⟩ | ⟨j, q, ds, h1, h2, h3⟩
    · have S4 := S1.keyL (k := k) hs hk hl
      have eput : putK (kqs.map raw) k.key (.ref l) = (kqs ++ [(k, l, [])]).map raw := by rw [putK_new _ hn, List.map_append]; rfl
      rw [eput]
      have hs4 : (ss.set i (dls K p (kqs ++ [(k, l, [])])))[i]? = some (dls K p (kqs ++ [(k, l, [])])) := List.getElem?_set_self hil
      obtain ⟨_, _, _, hq4⟩ := S4.getL hs4
      have hj : (kqs ++ [(k, l, ([] : List D))])[kqs.length]? = some (k, l, []) := by rw [List.getElem?_append_right (Nat.le_refl _), Nat.sub_self]; rfl
      obtain ⟨_, ws, hw, _⟩ := hq4 _ (List.mem_of_getElem? hj)
      refine ⟨.inl ⟨rfl, _, SqL.of hw⟩, a _ F1 _ σ _ S4 fun w F3 H3 e3 r3 => ?_⟩
      have S5 := S4.ext2 e3
      obtain ⟨_, _, _, hq5⟩ := S5.getL hs4
      obtain ⟨_, ws5, hw5, rs5⟩ := hq5 _ (List.mem_of_getElem? hj)
      have S6 := S5.appL hs4 hj (rs5.snoc r3)
      rw [List.set_set] at S6
      refine ⟨l, ws5, w, rfl, rfl, hw5, by rw [← rs5.length]; show 0 < _; rw [sizeLine_eq]; decide, h _ ?_ F3 _ σ S6⟩
      rw [h2, List.set_append_right _ _ (Nat.le_refl _), Nat.sub_self, List.map_append]
      rfl
    · rw [h2] at hn; cases hn
end
end L2

set_option Elab.async false
set_option linter.all false
set_option maxRecDepth 100000
set_option maxHeartbeats 4000000
/-! dicts of lists: the lists frozen; list(d.values()) -/
namespace L2
open PySem PySem.W PySem.Spec PyProof.Rows
section
variable {K : PySem.W.Frag} {G H₀ L : Hp} {ss : List Sl} {i : Nat} {p : Addr} {kqs : KQ} {kvs : DD} {E : Ends} {tk tv : TE} {k d : D}
def frzL (q : D × Addr × List D) : D × D := (q.1, .lst q.2.2)
theorem Sat.freezeL {F H : Hp} {σ : St} (S : Sat K G H₀ L F H σ ss) (hs : ss[i]? = some (dls K p kqs)) : ∃ F', Sat K G H₀ L F' H σ (ss.set i (dsl K p (kqs.map frzL))) := by
  obtain ⟨e, hoff, hp, hq⟩ := S.getL hs
  have hget : σ.getD i none = some (.ref p) := by rw [List.getD_eq_getElem?_getD, e]; rfl
  have hnd : (p :: kqs.map (·.2.1)).Nodup := S.nd i _ hs
  have off : ∀ b, b ∈ kqs.map (·.2.1) → H₀ b = none ∧ F b = none := fun b hb => hoff b (List.mem_cons_of_mem _ hb)
  let F' : Hp := fun b => if b ∈ kqs.map (·.2.1) then H b else F b
  have fin : ∀ b, b ∈ kqs.map (·.2.1) → F' b = H b := fun b hb => if_pos hb
  have fout : ∀ b, b ∉ kqs.map (·.2.1) → F' b = F b := fun b hb => if_neg hb
  have ff : Same F F' := fun b o h => by
    have : b ∉ kqs.map (·.2.1) := fun hb => by rw [(off b hb).2] at h; cases h
    rw [fout b this]; exact h
  have fh : Same F' H := fun b o h => by
    by_cases hb : b ∈ kqs.map (·.2.1)
    · rw [fin b hb] at h; exact h
    · rw [fout b hb] at h; exact S.ext.fh b o h
  have ex : Ext G H₀ F' H := ⟨S.ext.gf.trans ff, fh, S.ext.hh, fun b o h => by
    have : b ∉ kqs.map (·.2.1) := fun hb => by rw [(off b hb).1] at h; cases h
    rw [fout b this]; exact S.ext.no b o h⟩
  obtain ⟨p0, pf⟩ := hoff p List.mem_cons_self
  refine ⟨F', S.put ex (S.fl.trans ff) rfl (fun _ _ => rfl) (fun _ => ?_) (by simp [dsl, Sl.ads]) (fun j s' hj h q hq => ?_) fun j s' hj h => ?_⟩
  · rw [hget]
    refine ⟨rfl, fun a ha => by rw [List.mem_singleton.mp ha]; exact ⟨p0, by rw [fout p (List.nodup_cons.mp hnd).1]; exact pf, _, hp⟩, ⟨_, hp, ?_⟩, dW_stab _ _ _⟩
    have key : ∀ zs : KQ, (∀ z ∈ zs, z ∈ kqs) → Dks K F' (zs.map frzL) (zs.map raw) := by
      intro zs
      induction zs with
      | nil => intro _; exact .nil
      | cons z zs ih =>
        intro hz
        obtain ⟨z1, vs, hv, r⟩ := hq z (hz z List.mem_cons_self)
        exact .cons z1 (Rep.lst (SqL.of ((fin z.2.1 (List.mem_map.mpr ⟨z, hz z List.mem_cons_self, rfl⟩)).trans hv)) (r.mono ff)) (ih fun y hy => hz y (List.mem_cons_of_mem _ hy))
    exact key kqs fun z h => h
  · have : q = p := by simpa [dsl, Sl.ads] using hq
    subst this
    exact S.ne i j _ s' (Ne.symm hj) hs h q List.mem_cons_self
  · have dis : ∀ b ∈ s'.ads, b ∉ kqs.map (·.2.1) := fun b hb hb2 => S.ne i j _ s' (Ne.symm hj) hs h b (List.mem_cons_of_mem _ hb2) hb
    have own : ∀ {b : Addr} {xs : List D}, b ∈ s'.ads → OwnL K H₀ F H b xs → OwnL K H₀ F' H b xs := fun hb ⟨a1, a2, vs, a3, a4⟩ => ⟨a1, by rw [fout _ (dis _ hb)]; exact a2, vs, a3, a4.mono ff⟩
    have ok := S.ok j s' h
    cases s' with
    | un => trivial
    | d x => obtain ⟨v, ev, r⟩ := ok; exact ⟨v, ev, r.mono ff⟩
    | o b xs => exact ⟨ok.1, own (by simp [Sl.ads]) ok.2⟩
    | oo b zs =>
      obtain ⟨a1, a2, a3, a4, a5⟩ := ok
      exact ⟨a1, a2, by rw [fout b (dis b (by simp [Sl.ads]))]; exact a3, a4, fun z hz => own (by simp [Sl.ads]; exact .inr ⟨_, hz⟩) (a5 z hz)⟩
    | g v as W =>
      obtain ⟨a1, a2, a3, a4⟩ := ok
      refine ⟨a1, fun b hb => ?_, a4 _ _ _ _ ff (fun _ _ => rfl) a3, a4⟩
      obtain ⟨b1, b2, b3⟩ := a2 b hb
      exact ⟨b1, by rw [fout b (dis b hb)]; exact b2, b3⟩
theorem nx_freezeL {N : St → Hp → Prop} (hs : ss[i]? = some (dls K p kqs)) (h : Nx K G H₀ L N (ss.set i (dsl K p (kqs.map frzL)))) : Nx K G H₀ L N ss := fun F H σ S => by
  obtain ⟨F', S'⟩ := S.freezeL hs
  exact h F' H σ S'
theorem Dks.snds {F : Hp} {xs : List (Key × V)} (h : Dks K F kvs xs) : Reps K F (kvs.map (·.2)) (xs.map (·.2)) := by
  induction h with
  | nil => exact Reps.nil
  | cons hk r t ih => exact Reps.cons r ih
/-- list(x.values()) -/
def rListVals : List V → Hp → VK → Prop := fun xs H Q => ∃ r d kvs, xs = [.ref r] ∧ H r = some (ValsO r d) ∧ H d = some (.dK kvs) ∧ ∀ l, H l = none → Q (.ref l) (upd H l (.lst (kvs.map (·.2))))
theorem evo_vals (hs : ss[i]? = some (dsl K p kvs)) : EvO K G H₀ L ss (tCB rListVals (tCons (tBM0 K "dict" rValues (tVar i)) tNil)) (kvs.map (·.2)) := fun F H σ Q S q => by
  obtain ⟨e, h0, fp, xs, hp, dk⟩ := S.getM hs
  refine ⟨.ref p, e, .inr (.inr (.inl ⟨rfl, .inl ⟨_, hp⟩⟩)), p, xs, rfl, rfl, hp, fun r hr => ?_⟩
  have hpr : p ≠ r := fun z => by rw [z, hr] at hp; cases hp
  refine ⟨r, p, xs, rfl, upd_same, by rw [upd_ne hpr]; exact hp, fun l hl => ?_⟩
  have hlr : l ≠ r := fun z => by rw [z, upd_same] at hl; cases hl
  have hl0 : H l = none := by rw [upd_ne hlr] at hl; exact hl
  exact q l _ F _ ((Ext.newO ((Ext.refl S.ext.fh).newO hr) hl)) hl0 (S.ext.fh.free hl0) upd_same dk.snds
/-- list(range(n)) -/
def rListRng : List V → Hp → VK → Prop := fun xs H Q => ∃ r a b c n, xs = [.ref r] ∧ H r = some (RngO r a b c) ∧ Builtin.Range.small a b c = true ∧ Builtin.Range.rangeSize a b c = ((n : Nat) : Int) ∧ n ≤ 1048576 ∧ ∀ l, H l = none → Q (.ref l) (upd H l (.lst ((List.range n).map fun (i : Nat) => .int (a + (i : Int) * c))))
theorem evo_listrange {ta : TE} {n : Nat} (a : EvB K G H₀ L ss ta (.int n)) (hn : n ≤ 1048576) : EvO K G H₀ L ss (tCB rListRng (tCons (tRng1 (tCons ta tNil)) tNil)) ((List.range n).map fun j : Nat => .int j) := fun F H σ Q S q =>
  a F H σ _ S fun v F1 H1 e1 r1 => by
    rw [r1.of_int]
    refine ⟨n, rfl, fun r hr => ⟨r, 0, n, 1, n, rfl, upd_same, ?_, ?_, hn, fun l hl => ?_⟩⟩
    · exact small_one (by decide) (by decide) (by omega) (by omega)
    · unfold Builtin.Range.rangeSize
      rw [if_pos (by decide)]
      split <;> omega
    · have hlr : l ≠ r := fun z => by rw [z, upd_same] at hl; cases hl
      have hl0 : H1 l = none := by rw [upd_ne hlr] at hl; exact hl
      refine q l _ F1 _ ((e1.newO hr).newO hl) (e1.hh.free hl0) (e1.fh.free hl0) upd_same ?_
      have e : ((List.range n).map fun i : Nat => V.int ((0 : Int) + (i : Int) * 1)) = (List.range n).map fun i : Nat => V.int (i : Int) := List.map_congr_left fun i _ => by rw [Int.mul_one, Int.zero_add]
      rw [e]
      have := Reps.ints (K := K) (H := F1) (p := l) ((List.range n).map fun i : Nat => (i : Int))
      rw [List.map_map, List.map_map] at this
      exact this
/-- for i, x in enumerate(list), frozen or new -/
theorem go_enum {tl : TE} {g : TG} {tb : TS} {α : Type} (enc : α → D) (xs : List α) (I : Nat → List Sl → Prop) (a : Ev K G H₀ L ss tl (.lst (xs.map enc))) (h0 : I 0 ss)
    (hs : ∀ L' k x ss, Same L L' → xs[k]? = some x → I k ss → ∃ ss', Tg K G H₀ L' g (.tup [.int k, enc x]) ss ss' ∧ ∀ N, (∀ ss, I (k + 1) ss → Nx K G H₀ L' N ss) → Go K G H₀ L' { E with nx := N, ct := N, bk := E.nx } ss' tb)
    (hd : ∀ ss, I xs.length ss → Nx K G H₀ L E.nx ss) : Go K G H₀ L E ss (tFor (iEnL K (tCons tl tNil)) g tb) := fun F H σ S =>
  a F H σ _ S fun v F1 H1 e1 r1 => by
    obtain ⟨p, vs, rfl, sq, rs⟩ := r1.of_lst
    refine ⟨p, rfl, ⟨vs, SqL.same e1.fh sq⟩, ?_⟩
    refine ⟨fun i m σ' H' => m = xs.length - i ∧ i ≤ xs.length ∧ At K G H₀ F1 (I i) σ' H', ⟨_, rfl, Nat.zero_le _, ss, F1, (S.ext2 e1).raise, h0⟩, ?_⟩
    rintro i m σ' H' ⟨rfl, hi, ss1, F2, S2, h2⟩
    have rp : Rep K F2 (.lst (xs.map enc)) (.ref p) := r1.mono S2.fl
    obtain ⟨ws, sq2, rs2⟩ := rp.itl S2.ext.fh
    have hlen : ws.length = xs.length := by rw [← rs2.length, List.length_map]
    by_cases hlt : i < xs.length
    · refine .inr ⟨⟨ws, ws[i]'(by omega), sq2, List.getElem?_eq_getElem _⟩, fun σ'' H'' => At K G H₀ F1 (I (i + 1)) σ'' H'', fun σ'' H'' h => ⟨xs.length - (i + 1), by omega, rfl, hlt, h⟩, fun x H'' y => ?_⟩
      obtain ⟨T0, us, rfl, hf, rfl, y⟩ := y
      obtain ⟨w, hx, rfl⟩ := y ws sq2
      obtain ⟨dx, hdx, rx⟩ := rs2.get hx
      rw [List.getElem?_map, List.getElem?_eq_getElem hlt] at hdx
      cases hdx
      obtain ⟨ss', tg, go⟩ := hs F1 i _ ss1 (S.fl.trans e1.gf) (List.getElem?_eq_getElem hlt) h2
      have e3 : Ext F2 H' (upd F2 T0 (.tup [.int i, w])) (upd H' T0 (.tup [.int i, w])) := (Ext.refl S2.ext.fh).newF hf
      have rt : Rep K (upd F2 T0 (.tup [.int i, w])) (.tup [.int i, enc xs[i]]) (.ref T0) := Rep.tup (SqT.of upd_same) (Reps.cons Rep.int (Reps.cons (rx.mono e3.gf) Reps.nil))
      exact tg _ _ σ' _ _ (S2.ext2 e3) rt fun σ3 S3 => go _ (fun ss h => nx_at h) _ _ σ3 S3
    · have e : i = xs.length := by omega
      subst e
      exact .inl ⟨⟨ws, sq2, hlen⟩, hd ss1 h2 F2 H' σ' (S2.lower (S.fl.trans e1.gf))⟩
theorem reps_ints_eq {F : Hp} : ∀ {ns : List Int} {vs : List V}, Reps K F (ns.map D.int) vs → vs = ns.map V.int
  | [], vs, r => by rw [List.map_nil, Reps] at r; exact r
  | n :: ns, vs, r => by
    rw [List.map_cons, Reps] at r
    obtain ⟨x, r', rfl, r1, r2⟩ := r
    rw [r1.of_int, reps_ints_eq r2]; rfl
/-- xs.index(k) -/
theorem ev_index {ta tb : TE} {ns : List Int} {k : Int} (a : EvL K G H₀ L ss ta (ns.map D.int)) (b : EvB K G H₀ L ss tb (.int k)) (hk : k ∈ ns) : Ev K G H₀ L ss (tBM K "list" (rIndexI K) ta (tCons tb tNil)) (.int (ns.idxOf k : Nat)) := fun F H σ Q S q =>
  a F H σ _ S fun p vs F1 H1 e1 sq r => ⟨.inl ⟨rfl, _, sq⟩, b F1 H1 σ _ (S.ext2 e1) fun v F2 H2 e2 r2 => by
    rw [r2.of_int]
    have hv : vs = ns.map V.int := by
      exact reps_ints_eq r
    subst hv
    exact ⟨p, ns, k, rfl, rfl, SqL.same e2.hh sq, hk, q _ _ _ (e1.trans e2) Rep.int⟩⟩
end
end L2

set_option Elab.async false
set_option linter.all false
set_option maxRecDepth 100000
set_option maxHeartbeats 4000000
/-! things grouped by a function; dicts as functions -/
namespace L2
theorem snoc_ind {α : Type} {P : List α → Prop} (h0 : P []) (hs : ∀ xs x, P xs → P (xs ++ [x])) (xs : List α) : P xs := by
  have : ∀ ys : List α, P ys.reverse := by
    intro ys
    induction ys with
    | nil => exact h0
    | cons y ys ih => rw [List.reverse_cons]; exact hs _ _ ih
  have := this xs.reverse
  rwa [List.reverse_reverse] at this
section
variable {α β γ : Type} [DecidableEq α] [DecidableEq β] [DecidableEq γ] {f : α → β} {g : α → γ} {xs : List α} {x : α}
def hdStep (f : α → β) (acc : List α) (x : α) : List α := if (acc.any fun y => decide (f y = f x)) = true then acc else acc ++ [x]
def heads (f : α → β) (xs : List α) : List α := xs.foldl (hdStep f) []
theorem heads_snoc : heads f (xs ++ [x]) = hdStep f (heads f xs) x := by unfold heads; rw [List.foldl_append]; rfl
theorem heads_val (v : β) : (∃ y ∈ heads f xs, f y = v) ↔ ∃ y ∈ xs, f y = v := by
  induction xs using snoc_ind with
  | h0 => simp [heads]
  | hs xs x ih =>
    rw [heads_snoc]
    unfold hdStep
    split
    · rename_i h
      rw [List.any_eq_true] at h
      obtain ⟨y, hy, e⟩ := h
      have e := of_decide_eq_true e
      rw [ih]
      constructor
      · rintro ⟨z, hz, ez⟩; exact ⟨z, List.mem_append_left _ hz, ez⟩
      · rintro ⟨z, hz, ez⟩
        rcases List.mem_append.mp hz with hz | hz
        · exact ⟨z, hz, ez⟩
        · rw [List.mem_singleton.mp hz] at ez
          exact ih.mp ⟨y, hy, e.trans ez⟩
    · constructor
      · rintro ⟨z, hz, ez⟩
        rcases List.mem_append.mp hz with hz | hz
        · obtain ⟨w, hw, ew⟩ := ih.mp ⟨z, hz, ez⟩
          exact ⟨w, List.mem_append_left _ hw, ew⟩
        · exact ⟨z, List.mem_append_right _ hz, ez⟩
      · rintro ⟨z, hz, ez⟩
        rcases List.mem_append.mp hz with hz | hz
        · obtain ⟨w, hw, ew⟩ := ih.mpr ⟨z, hz, ez⟩
          exact ⟨w, List.mem_append_left _ hw, ew⟩
        · exact ⟨z, List.mem_append_right _ hz, ez⟩
theorem heads_sub {y : α} : y ∈ heads f xs → y ∈ xs := by
  induction xs using snoc_ind with
  | h0 => exact fun h => h
  | hs xs x ih =>
    rw [heads_snoc]
    unfold hdStep
    split
    · exact fun h => List.mem_append_left _ (ih h)
    · intro h
      rcases List.mem_append.mp h with h | h
      · exact List.mem_append_left _ (ih h)
      · exact List.mem_append_right _ h
theorem heads_nd : ((heads f xs).map f).Nodup := by
  induction xs using snoc_ind with
  | h0 => exact List.nodup_nil
  | hs xs x ih =>
    rw [heads_snoc]
    unfold hdStep
    split
    · exact ih
    · rename_i h
      rw [List.map_append]
      refine List.nodup_append.mpr ⟨ih, by simp, fun a ha b hb e => h ?_⟩
      obtain ⟨y, hy, ey⟩ := List.mem_map.mp ha
      have hb : b = f x := by simpa using hb
      rw [List.any_eq_true]
      exact ⟨y, hy, decide_eq_true (ey.trans (e.trans hb))⟩
theorem any_heads (v : β) : ((heads f xs).any fun y => decide (f y = v)) = xs.any fun y => decide (f y = v) := by
  rw [Bool.eq_iff_iff, List.any_eq_true, List.any_eq_true]
  simp only [decide_eq_true_eq]
  exact heads_val v
def partsF (f : α → β) (xs : List α) : List (List α) := (heads f xs).map fun h => xs.filter fun t => decide (f t = f h)
def SameK (xs : List α) (f : α → β) (g : α → γ) : Prop := ∀ a ∈ xs, ∀ b ∈ xs, (f a = f b ↔ g a = g b)
theorem heads_congr (h : SameK xs f g) : heads f xs = heads g xs := by
  induction xs using snoc_ind with
  | h0 => rfl
  | hs xs x ih =>
    rw [heads_snoc, heads_snoc, ih fun a ha b hb => h a (List.mem_append_left _ ha) b (List.mem_append_left _ hb)]
    unfold hdStep
    have : ((heads g xs).any fun y => decide (f y = f x)) = (heads g xs).any fun y => decide (g y = g x) := by
      rw [Bool.eq_iff_iff, List.any_eq_true, List.any_eq_true]
      simp only [decide_eq_true_eq]
      constructor
      · rintro ⟨y, hy, e⟩; exact ⟨y, hy, (h y (List.mem_append_left _ (heads_sub hy)) x (by simp)).mp e⟩
      · rintro ⟨y, hy, e⟩; exact ⟨y, hy, (h y (List.mem_append_left _ (heads_sub hy)) x (by simp)).mpr e⟩
    rw [this]
theorem partsF_congr (h : SameK xs f g) : partsF f xs = partsF g xs := by
  unfold partsF
  rw [heads_congr h]
  refine List.map_congr_left fun y hy => List.filter_congr fun t ht => ?_
  rw [Bool.eq_iff_iff, decide_eq_true_eq, decide_eq_true_eq]
  exact h t ht y (heads_sub hy)
theorem partsF_len : (partsF f xs).length ≤ xs.length := by
  unfold partsF
  rw [List.length_map]
  induction xs using snoc_ind with
  | h0 => exact Nat.le_refl _
  | hs xs x ih =>
    rw [heads_snoc]
    unfold hdStep
    split <;> simp <;> omega
/-! ### merges -/
def stepF (k l : β) (f : α → β) : α → β := fun t => if f t = l then k else f t
theorem step_ker {k l : β} {x y a b : α} (h : (k = f x ∧ l = f y) ∨ (k = f y ∧ l = f x)) : stepF k l f a = stepF k l f b ↔ f a = f b ∨ ((f a = f x ∨ f a = f y) ∧ (f b = f x ∨ f b = f y)) := by
  unfold stepF
  rcases h with ⟨rfl, rfl⟩ | ⟨rfl, rfl⟩
  · by_cases h1 : f a = f y <;> by_cases h2 : f b = f y <;> simp [h1, h2]
    · constructor
      · intro e; exact .inr e.symm
      · rintro (e | e)
        · exact absurd e.symm h2
        · exact e.symm
    · intro e e2; exact e.trans e2.symm
  · by_cases h1 : f a = f x <;> by_cases h2 : f b = f x <;> simp [h1, h2]
    · constructor
      · intro e; exact .inr e.symm
      · rintro (e | e)
        · exact absurd e.symm h2
        · exact e.symm
    · intro e e2; exact e.trans e2.symm
theorem ker_step {k l : β} {k' l' : γ} {x y : α} (hx : x ∈ xs) (hy : y ∈ xs) (h : SameK xs f g) (h1 : (k = f x ∧ l = f y) ∨ (k = f y ∧ l = f x)) (h2 : (k' = g x ∧ l' = g y) ∨ (k' = g y ∧ l' = g x)) : SameK xs (stepF k l f) (stepF k' l' g) := fun a ha b hb => by
  rw [step_ker h1, step_ker h2, h a ha b hb, h a ha x hx, h a ha y hy, h b hb x hx, h b hb y hy]
/-! ### dicts as functions -/
variable {enc : α → D} {encB : β → D}
def dA (enc : α → D) (encB : β → D) (xs : List α) (f : α → β) : DD := xs.map fun t => (enc t, encB (f t))
theorem valD_in (hi : ∀ a b, enc a = enc b → a = b) (h : x ∈ xs) : valD (dA enc encB xs f) (enc x) = some (encB (f x)) := by
  induction xs with
  | nil => cases h
  | cons y ys ih =>
    by_cases e : y = x
    · subst e; simp [valD, dA]
    · have e2 : enc y ≠ enc x := fun z => e (hi _ _ z)
      have : valD (dA enc encB (y :: ys) f) (enc x) = valD (dA enc encB ys f) (enc x) := by simp [valD, dA, List.find?_cons, e2]
      rw [this]
      rcases List.mem_cons.mp h with z | z
      · exact absurd z.symm e
      · exact ih z
theorem valD_out (hi : ∀ a b, enc a = enc b → a = b) (h : x ∉ xs) : valD (dA enc encB xs f) (enc x) = none := by
  induction xs with
  | nil => rfl
  | cons y ys ih =>
    have e2 : enc y ≠ enc x := fun z => h (by rw [hi _ _ z]; exact List.mem_cons_self)
    have : valD (dA enc encB (y :: ys) f) (enc x) = valD (dA enc encB ys f) (enc x) := by simp [valD, dA, List.find?_cons, e2]
    rw [this]
    exact ih fun z => h (List.mem_cons_of_mem _ z)
theorem dA_any (hi : ∀ a b, enc a = enc b → a = b) : ((dA enc encB xs f).any fun kv => decide (kv.1 = enc x)) = true ↔ x ∈ xs := by
  rw [List.any_eq_true]
  constructor
  · rintro ⟨kv, hkv, e⟩
    obtain ⟨y, hy, rfl⟩ := List.mem_map.mp hkv
    rw [← hi _ _ (of_decide_eq_true e)]; exact hy
  · intro h; exact ⟨_, List.mem_map.mpr ⟨x, h, rfl⟩, by simp⟩
theorem putD_in (hi : ∀ a b, enc a = enc b → a = b) (h : x ∈ xs) (v : β) : putD (dA enc encB xs f) (enc x) (encB v) = dA enc encB xs (fun u => if u = x then v else f u) := by
  unfold putD
  rw [if_pos ((dA_any hi).mpr h)]
  unfold dA
  rw [List.map_map]
  refine List.map_congr_left fun u _ => ?_
  show (if enc u = enc x then (enc u, encB v) else (enc u, encB (f u))) = (enc u, encB (if u = x then v else f u))
  by_cases e : u = x
  · rw [if_pos (by rw [e]), if_pos e]
  · rw [if_neg fun z => e (hi _ _ z), if_neg e]
theorem putD_new (hi : ∀ a b, enc a = enc b → a = b) (h : x ∉ xs) : putD (dA enc encB xs f) (enc x) (encB (f x)) = dA enc encB (xs ++ [x]) f := by
  unfold putD
  rw [if_neg fun z => h ((dA_any hi).mp z)]
  unfold dA
  rw [List.map_append]
  rfl
/-! ### lists by keys -/
def grpD (enc : α → D) (encB : β → D) (f : α → β) (xs : List α) : List (D × List D) := (heads f xs).map fun h => (encB (f h), (xs.filter fun t => decide (f t = f h)).map enc)
theorem appD_in (hi : ∀ a b, encB a = encB b → a = b) {F : α → List D} {d : D} : ∀ {hs : List α}, (hs.map f).Nodup → (∃ h ∈ hs, f h = f x) → appD (hs.map fun h => (encB (f h), F h)) (encB (f x)) d = hs.map fun h => (encB (f h), if f h = f x then F h ++ [d] else F h)
  | [], _, h => by obtain ⟨_, h, _⟩ := h; cases h
  | y :: ys, hn, h => by
    rw [List.map_cons, List.map_cons, appD]
    rw [List.map_cons, List.nodup_cons] at hn
    by_cases e : f y = f x
    · rw [if_pos (by show encB (f y) = encB (f x); rw [e]), if_pos e]
      congr 1
      refine List.map_congr_left fun z hz => ?_
      have : f z ≠ f x := fun w => hn.1 (by rw [e, ← w]; exact List.mem_map_of_mem hz)
      rw [if_neg this]
    · rw [if_neg (fun z => e (hi _ _ z)), if_neg e]
      congr 1
      refine appD_in hi hn.2 ?_
      obtain ⟨z, hz, ez⟩ := h
      rcases List.mem_cons.mp hz with rfl | hz
      · exact absurd ez e
      · exact ⟨z, hz, ez⟩
theorem appD_out (hi : ∀ a b, encB a = encB b → a = b) {F : α → List D} {d : D} : ∀ {hs : List α}, (∀ h ∈ hs, f h ≠ f x) → appD (hs.map fun h => (encB (f h), F h)) (encB (f x)) d = (hs.map fun h => (encB (f h), F h)) ++ [(encB (f x), [d])]
  | [], _ => rfl
  | y :: ys, h => by
    rw [List.map_cons, appD, if_neg (fun z => h y List.mem_cons_self (hi _ _ z)), appD_out hi fun z hz => h z (List.mem_cons_of_mem _ hz)]
    rfl
theorem appD_grp (hi : ∀ a b, encB a = encB b → a = b) : appD (grpD enc encB f xs) (encB (f x)) (enc x) = grpD enc encB f (xs ++ [x]) := by
  unfold grpD
  rw [heads_snoc]
  unfold hdStep
  have ef : ∀ h, ((xs ++ [x]).filter fun t => decide (f t = f h)).map enc = if f h = f x then (xs.filter fun t => decide (f t = f h)).map enc ++ [enc x] else (xs.filter fun t => decide (f t = f h)).map enc := fun h => by
    rw [List.filter_append]
    by_cases e : f h = f x
    · rw [if_pos e, List.filter_cons_of_pos (by simp [e]), List.filter_nil, List.map_append]; rfl
    · rw [if_neg e, List.filter_cons_of_neg (by simp; exact fun z => e z.symm), List.filter_nil, List.append_nil]
  split
  · rename_i h
    rw [List.any_eq_true] at h
    obtain ⟨y, hy, e⟩ := h
    rw [appD_in hi heads_nd ⟨y, hy, of_decide_eq_true e⟩]
    exact List.map_congr_left fun h _ => by rw [ef]
  · rename_i h
    have hno : ∀ y ∈ heads f xs, f y ≠ f x := fun y hy e => h (by rw [List.any_eq_true]; exact ⟨y, hy, decide_eq_true e⟩)
    rw [appD_out hi hno, List.map_append]
    congr 1
    · exact List.map_congr_left fun h hh => by rw [ef, if_neg (hno h hh)]
    · rw [List.map_singleton, ef, if_pos rfl]
      have : (xs.filter fun t => decide (f t = f x)) = [] := by
        rw [List.filter_eq_nil_iff]
        intro t ht e
        obtain ⟨z, hz, ez⟩ := (heads_val (f := f) (xs := xs) (f x)).mpr ⟨t, ht, of_decide_eq_true e⟩
        exact hno z hz ez
      rw [this]; rfl
theorem grpD_vals : ((grpD enc encB f xs).map fun q => D.lst q.2) = (partsF f xs).map fun p => D.lst (p.map enc) := by
  unfold grpD partsF
  rw [List.map_map, List.map_map]
  rfl
theorem grpD_len : (grpD enc encB f xs).length ≤ xs.length := by
  have := partsF_len (f := f) (xs := xs)
  unfold partsF at this
  unfold grpD
  simpa using this
theorem grpD_item {q : D × List D} (h : q ∈ grpD enc encB f xs) : q.2.length ≤ xs.length := by
  unfold grpD at h
  obtain ⟨y, _, rfl⟩ := List.mem_map.mp h
  rw [List.length_map]
  exact List.length_filter_le ..
end
end L2

set_option Elab.async false
set_option linter.all false
set_option maxRecDepth 100000
set_option maxHeartbeats 8000000
namespace My
open PySem L2 PyProof.Rows
def top (i : Nat) : Stmt := PySem.Challenge.pw_folk_k31_parts_of_a_case.main.body.getD i (.Pass ⟨0, 0, 0, 0⟩)
abbrev s_joined : Stmt := top 1
theorem sc_joined : FnScope ["things", "links", "first", "thing", "one", "other", "kept", "lost", "lists"] ["things", "links"] (defScope s_joined) := ⟨rfl, rfl, rfl, by decide +kernel, rfl, by decide +kernel, by decide +kernel⟩
abbrev s_parts_of : Stmt := top 3
theorem sc_parts_of : FnScope ["many", "pairs", "aparts", "links"] ["many", "pairs", "aparts"] (defScope s_parts_of) := ⟨rfl, rfl, rfl, by decide +kernel, rfl, by decide +kernel, by decide +kernel⟩
abbrev s_case_of : Stmt := top 4
theorem sc_case_of : FnScope ["part", "pairs", "aparts", "numbers", "number", "block", "inner_pairs", "inner_aparts"] ["part", "pairs", "aparts"] (defScope s_case_of) := ⟨rfl, rfl, rfl, by decide +kernel, rfl, by decide +kernel, by decide +kernel⟩
abbrev s_law_cell_at : Stmt := top 6
theorem sc_law_cell_at : FnScope ["_law_script", "_law_k"] ["_law_script", "_law_k"] (defScope s_law_cell_at) := ⟨rfl, rfl, rfl, by decide +kernel, rfl, by decide +kernel, by decide +kernel⟩
abbrev s_law_weight : Stmt := top 7
theorem sc_law_weight : FnScope ["_law_cell", "_law_weight_here"] ["_law_cell"] (defScope s_law_weight) := ⟨rfl, rfl, rfl, by decide +kernel, rfl, by decide +kernel, by decide +kernel⟩
abbrev s_law_case : Stmt := top 8
theorem sc_law_case : FnScope ["_law_script", "_law_many", "_law_at", "_law_pairs", "_law_aparts", "_law_i", "_law_j", "_law_cell"] ["_law_script", "_law_many", "_law_at"] (defScope s_law_case) := ⟨rfl, rfl, rfl, by decide +kernel, rfl, by decide +kernel, by decide +kernel⟩
abbrev s_law_labels : Stmt := top 9
theorem sc_law_labels : FnScope ["_law_many", "_law_pairs", "_law_aparts", "_law_labels_here", "_law_i", "_law_j", "_law_weight_here", "_law_old"] ["_law_many", "_law_pairs", "_law_aparts"] (defScope s_law_labels) := ⟨rfl, rfl, rfl, by decide +kernel, rfl, by decide +kernel, by decide +kernel⟩
abbrev s_law_due : Stmt := top 10
theorem sc_law_due : FnScope ["_law_labels_here", "_law_due_here", "_law_block"] ["_law_labels_here"] (defScope s_law_due) := ⟨rfl, rfl, rfl, by decide +kernel, rfl, by decide +kernel, by decide +kernel⟩
abbrev s_law_is_whole : Stmt := top 11
theorem sc_law_is_whole : FnScope ["_law_found"] ["_law_found"] (defScope s_law_is_whole) := ⟨rfl, rfl, rfl, by decide +kernel, rfl, by decide +kernel, by decide +kernel⟩
abbrev s_law_case_due : Stmt := top 12
theorem sc_law_case_due : FnScope ["_law_part", "_law_pairs", "_law_aparts", "_law_some", "_law_few"] ["_law_part", "_law_pairs", "_law_aparts"] (defScope s_law_case_due) := ⟨rfl, rfl, rfl, by decide +kernel, rfl, by decide +kernel, by decide +kernel⟩
abbrev s_law : Stmt := top 13
theorem sc_law : FnScope ["_law_script", "_law_many", "_law_pairs", "_law_aparts", "_law_held", "_law_found", "_law_due_here", "_law_part", "_law_case_here"] ["_law_script"] (defScope s_law) := ⟨rfl, rfl, rfl, by decide +kernel, rfl, by decide +kernel, by decide +kernel⟩
structure Tx (K : PySem.W.Frag) (mg : Str → Option Value) (f_joined f_parts_of f_case_of f_law_cell_at f_law_weight f_law_case f_law_labels f_law_due f_law_is_whole f_law_case_due f_law : Addr) (d_joined d_parts_of d_case_of d_law_cell_at d_law_weight d_law_case d_law_labels d_law_due d_law_is_whole d_law_case_due d_law : FuncData) : Prop where
  F_joined : Fun K "joined" "joined" s_joined f_joined d_joined
  B_joined : Binds K d_joined ["things", "links"] []
  M_joined : mg "joined" = some (.ref f_joined)
  F_parts_of : Fun K "parts_of" "parts_of" s_parts_of f_parts_of d_parts_of
  B_parts_of : Binds K d_parts_of ["many", "pairs", "aparts"] []
  M_parts_of : mg "parts_of" = some (.ref f_parts_of)
  F_case_of : Fun K "case_of" "case_of" s_case_of f_case_of d_case_of
  B_case_of : Binds K d_case_of ["part", "pairs", "aparts"] []
  M_case_of : mg "case_of" = some (.ref f_case_of)
  F_law_cell_at : Fun K "_law_cell_at" "_law_cell_at" s_law_cell_at f_law_cell_at d_law_cell_at
  B_law_cell_at : Binds K d_law_cell_at ["_law_script", "_law_k"] []
  M_law_cell_at : mg "_law_cell_at" = some (.ref f_law_cell_at)
  F_law_weight : Fun K "_law_weight" "_law_weight" s_law_weight f_law_weight d_law_weight
  B_law_weight : Binds K d_law_weight ["_law_cell"] []
  M_law_weight : mg "_law_weight" = some (.ref f_law_weight)
  F_law_case : Fun K "_law_case" "_law_case" s_law_case f_law_case d_law_case
  B_law_case : Binds K d_law_case ["_law_script", "_law_many", "_law_at"] []
  M_law_case : mg "_law_case" = some (.ref f_law_case)
  F_law_labels : Fun K "_law_labels" "_law_labels" s_law_labels f_law_labels d_law_labels
  B_law_labels : Binds K d_law_labels ["_law_many", "_law_pairs", "_law_aparts"] []
  M_law_labels : mg "_law_labels" = some (.ref f_law_labels)
  F_law_due : Fun K "_law_due" "_law_due" s_law_due f_law_due d_law_due
  B_law_due : Binds K d_law_due ["_law_labels_here"] []
  M_law_due : mg "_law_due" = some (.ref f_law_due)
  F_law_is_whole : Fun K "_law_is_whole" "_law_is_whole" s_law_is_whole f_law_is_whole d_law_is_whole
  B_law_is_whole : Binds K d_law_is_whole ["_law_found"] []
  M_law_is_whole : mg "_law_is_whole" = some (.ref f_law_is_whole)
  F_law_case_due : Fun K "_law_case_due" "_law_case_due" s_law_case_due f_law_case_due d_law_case_due
  B_law_case_due : Binds K d_law_case_due ["_law_part", "_law_pairs", "_law_aparts"] []
  M_law_case_due : mg "_law_case_due" = some (.ref f_law_case_due)
  F_law : Fun K "law" "law" s_law f_law d_law
  B_law : Binds K d_law ["_law_script"] []
  M_law : mg "law" = some (.ref f_law)
  z_bool : mg "bool" = none
  z_enumerate : mg "enumerate" = none
  z_int : mg "int" = none
  z_isinstance : mg "isinstance" = none
  z_len : mg "len" = none
  z_list : mg "list" = none
  z_max : mg "max" = none
  z_min : mg "min" = none
  z_range : mg "range" = none
  z_tuple : mg "tuple" = none
section
variable {P : Program} {w : World} {K : PySem.W.Frag} {mg : Str → Option Value} {base : Heap} {f_joined f_parts_of f_case_of f_law_cell_at f_law_weight f_law_case f_law_labels f_law_due f_law_is_whole f_law_case_due f_law : Addr} {d_joined d_parts_of d_case_of d_law_cell_at d_law_weight d_law_case d_law_labels d_law_due d_law_is_whole d_law_case_due d_law : FuncData}
def preCell (ds : List D) : Prop := ∃ (ns : List Int) (k : Int), ds = [.lst (ns.map .int), .int k] ∧ 0 ≤ k
def resCell : List D → D
  | [.lst xs, .int k] => xs.getD k.toNat (.int 0)
  | _ => .non
theorem ok_law_cell_at (Z : Tx K mg f_joined f_parts_of f_case_of f_law_cell_at f_law_weight f_law_case f_law_labels f_law_due f_law_is_whole f_law_case_due f_law d_joined d_parts_of d_case_of d_law_cell_at d_law_weight d_law_case d_law_labels d_law_due d_law_is_whole d_law_case_due d_law) : FnOk P w K mg base CX0 1 f_law_cell_at d_law_cell_at ["_law_script", "_law_k"] (SpD K preCell resCell) := by
  refine Z.F_law_cell_at.ok sc_law_cell_at (fun vs H Q E h => spD_len (n := 2) (by rintro ds ⟨ns, k, rfl, _⟩; rfl) h) (fun cdv A outer s H vs Q E hr h => ⟨_, (pss_cons (ps_if (pt_cmpR op_lt (pv 1) (pe_callB call_len_seq (by rfl) Z.z_len boot_len (pa_cons (pv 0) pa_nil)) (nomark _)) (pss_one (ps_ret (pe_ix (show IxR _ (rIxL K) from ix_list) (pv 0) (pv 1) (fun _ _ => rfl)))) pss_nil)
      (pss_one (ps_ret pe_int))), ?_⟩)
  refine go_spD h (by rw [spD_len (n := 2) (by rintro ds ⟨ns, k, rfl, _⟩; rfl) h]; decide) fun G ds hp rt => ?_
  obtain ⟨ns, k, rfl, hk⟩ := hp
  have ll : (ns.map D.int).length = ns.length := by simp
  refine go_seq (go_if (evt_test (ev_cmpI (g := fun i j => decide (i < j)) (ev_var rfl).b (ev_lenL (ev_var rfl).l).b)) (fun hb => ?_) (fun hb => ?_))
  · simp only [decide_eq_true_eq] at hb
    have hk2 : k.toNat < ns.length := by omega
    refine go_ret (ev_ixL (d := .int (ns.getD k.toNat 0)) (ev_var rfl).l (ev_var rfl).b ?_) ?_
    · have := atI_nat (xs := ns.map D.int) (j := k.toNat) (v := D.int (ns.getD k.toNat 0)) (by rw [List.getElem?_map, List.getD_eq_getElem?_getD]; simp [hk2])
      rw [show ((k.toNat : Nat) : Int) = k by omega] at this
      exact this
    · have e : resCell [D.lst (ns.map D.int), D.int k] = .int (ns.getD k.toNat 0) := by
        simp [resCell, List.getD_eq_getElem?_getD, List.getElem?_map, hk2]
      rw [e] at rt; exact rt
  · simp only [decide_eq_false_iff_not] at hb
    have e : resCell [D.lst (ns.map D.int), D.int k] = .int 0 := by
      simp [resCell, List.getD_eq_getElem?_getD, List.getElem?_map, show ns[k.toNat]? = none from List.getElem?_eq_none (by omega)]
    rw [e] at rt
    refine go_next ?_
    ((try dsimp only); refine nx_go ?_)
    exact go_ret ev_int rt
theorem small {n : Nat} (h : n ≤ 1000) : n ≤ sizeLine := by rw [sizeLine_eq]; omega
theorem atI_mod {α : Type} (xs : List α) (z : α) (x : Int) {n : Int} (hn : (xs.length : Int) = n) (h0 : 0 < n) : atI xs (x % n) = some (xs.getD (x % n).toNat z) := by
  have h1 := Int.emod_nonneg x (show n ≠ 0 by omega)
  have h2 := Int.emod_lt_of_pos x h0
  have := atI_nat (xs := xs) (j := (x % n).toNat) (v := xs.getD (x % n).toNat z) (by rw [List.getD_eq_getElem?_getD, List.getElem?_eq_getElem (by omega)]; rfl)
  rw [show (((x % n).toNat : Nat) : Int) = x % n by omega] at this
  exact this
abbrev Apt := Nat × Nat
abbrev Pr := Nat × Nat × Int
def encA (a : Apt) : D := .tup [.int a.1, .int a.2]
def encP (p : Pr) : D := .tup [.int p.1, .int p.2.1, .int p.2.2]
def unI : D → Int
  | .int i => i
  | _ => 0
def unA : D → Apt
  | .tup [.int i, .int j] => (i.toNat, j.toNat)
  | _ => (0, 0)
def unP : D → Pr
  | .tup [.int i, .int j, .int w] => (i.toNat, j.toNat, w)
  | _ => (0, 0, 0)
theorem unI_map (gs : List Int) : (gs.map D.int).map unI = gs := by rw [List.map_map]; exact List.map_id gs
theorem unA_map (as : List Apt) : (as.map encA).map unA = as := by rw [List.map_map]; exact List.map_id as
theorem unP_map (ps : List Pr) : (ps.map encP).map unP = ps := by rw [List.map_map]; exact List.map_id ps
theorem at_gs {gs : List Int} {i : Nat} (h : i < gs.length) : atI (gs.map D.int) (i : Int) = some (.int (gs.getD i 0)) :=
  atI_nat (by rw [List.getElem?_map, List.getD_eq_getElem?_getD]; simp [h])
def wgt (c : Int) : Int := if c / 8 % 2 = 1 then 1 + c / 16 % (10 : Int) ^ (30 : Int).toNat else 1 + c / 16 % 4
def wgtL (v : Int) : List Int := [0, v, v, v, v, -v, -v, -v]
def wF (c : Int) : Int := (wgtL (wgt c)).getD (c % 8).toNat 0
theorem wgt_pos (c : Int) : 0 < wgt c := by
  unfold wgt
  split
  · have := Int.emod_nonneg (c / 16) (show (10 : Int) ^ (30 : Int).toNat ≠ 0 by decide); omega
  · have := Int.emod_nonneg (c / 16) (show (4 : Int) ≠ 0 by decide); omega
theorem wF_ne (c : Int) (h : 0 < c % 8) : wF c ≠ 0 := by
  have h2 := Int.emod_lt_of_pos c (show (0 : Int) < 8 by decide)
  have hp := wgt_pos c
  unfold wF
  have : (c % 8).toNat = 1 ∨ (c % 8).toNat = 2 ∨ (c % 8).toNat = 3 ∨ (c % 8).toNat = 4 ∨ (c % 8).toNat = 5 ∨ (c % 8).toNat = 6 ∨ (c % 8).toNat = 7 := by omega
  rcases this with e | e | e | e | e | e | e <;> rw [e] <;> simp [wgtL] <;> omega
theorem at_ints {gs : List Int} {k : Int} (h0 : 0 ≤ k) (h1 : k < gs.length) : atI (gs.map D.int) k = some (.int (gs.getD k.toNat 0)) := by
  have := at_gs (gs := gs) (i := k.toNat) (by omega)
  rwa [show ((k.toNat : Nat) : Int) = k by omega] at this
def preW (ds : List D) : Prop := ∃ c : Int, ds = [.int c]
def resW : List D → D
  | [.int c] => .int (wF c)
  | _ => .non
theorem ok_law_weight (Z : Tx K mg f_joined f_parts_of f_case_of f_law_cell_at f_law_weight f_law_case f_law_labels f_law_due f_law_is_whole f_law_case_due f_law d_joined d_parts_of d_case_of d_law_cell_at d_law_weight d_law_case d_law_labels d_law_due d_law_is_whole d_law_case_due d_law) : FnOk P w K mg base CX0 1 f_law_weight d_law_weight ["_law_cell"] (SpD K preW resW) := by
  refine Z.F_law_weight.ok sc_law_weight (fun vs H Q E h => spD_len (n := 1) (by rintro ds ⟨c, rfl⟩; rfl) h) (fun cdv A outer s H vs Q E hr h => ⟨_, (pss_cons (ps_set (i := 1) sc_law_weight.nd rfl (Or.inl rfl) (pe_op op_add pe_int (pe_op op_mod (pe_op op_fdiv (pv 0) pe_int) pe_int)))
      (pss_cons (ps_if (pt_cmpR op_eq (pe_op op_mod (pe_op op_fdiv (pv 0) pe_int) pe_int) pe_int (nomark _)) (pss_one (ps_set (i := 1) sc_law_weight.nd rfl (Or.inl rfl) (pe_op op_add pe_int (pe_op op_mod (pe_op op_fdiv (pv 0) pe_int) (pe_op op_pow pe_int pe_int))))) pss_nil)
      (pss_one (ps_ret (pe_ix (show IxR _ (rIxL K) from ix_list) (pe_lst (pa_cons pe_int (pa_cons (pv 1) (pa_cons (pv 1) (pa_cons (pv 1) (pa_cons (pv 1) (pa_cons (pe_un un_neg (pv 1)) (pa_cons (pe_un un_neg (pv 1)) (pa_cons (pe_un un_neg (pv 1)) pa_nil))))))))) (pe_op op_mod (pv 0) pe_int) (fun _ _ => rfl)))))), ?_⟩)
  refine go_spD h (by rw [spD_len (n := 1) (by rintro ds ⟨c, rfl⟩; rfl) h]; decide) fun G ds hp rt => ?_
  obtain ⟨c, rfl⟩ := hp
  refine go_seq (go_set (ev_add ev_int.b (ev_mod (ev_fdiv (ev_var rfl).b ev_int.b ⟨by decide, by decide⟩).b ev_int.b (by decide)).b) ?_)
  ((try dsimp only); refine nx_go ?_)
  refine go_join (fun ss => ss = [.d (.int c), .d (.int (wgt c))]) (fun N hN => go_if (evt_test (ev_eqI (ev_mod (ev_fdiv (ev_var rfl).b ev_int.b ⟨by decide, by decide⟩).b ev_int.b (by decide)).b ev_int.b)) (fun hb => go_set (ev_add ev_int.b (ev_mod (ev_fdiv (ev_var rfl).b ev_int.b ⟨by decide, by decide⟩).b (ev_pow ev_int.b ev_int.b ⟨by decide, by decide, by decide⟩).b (by decide)).b) (hN _ ?_)) (fun hb => go_next (hN _ ?_))) ?_
  · unfold wgt; rw [if_pos (of_decide_eq_true hb)]; rfl
  · unfold wgt; rw [if_neg (of_decide_eq_false hb)]; rfl
  · rintro ss rfl
    have h1 := Int.emod_nonneg c (show (8 : Int) ≠ 0 by decide)
    have h2 := Int.emod_lt_of_pos c (show (0 : Int) < 8 by decide)
    exact go_ret (ev_ixL (ds := (wgtL (wgt c)).map D.int) (EvO.l (evo_lst (evaf_cons ev_int (evaf_cons (ev_var rfl) (evaf_cons (ev_var rfl) (evaf_cons (ev_var rfl) (evaf_cons (ev_var rfl) (evaf_cons (ev_neg (ev_var rfl).b) (evaf_cons (ev_neg (ev_var rfl).b) (evaf_cons (ev_neg (ev_var rfl).b) evaf_nil)))))))) (small (by simp [wgtL])))) (ev_mod (ev_var rfl).b ev_int.b (by decide)).b (at_ints h1 (by show c % 8 < ((wgtL (wgt c)).length : Int); exact h2))) rt
def GoodC (m : Nat) (ps : List Pr) (as : List Apt) : Prop := (∀ p ∈ ps, p.1 < m ∧ p.2.1 < m ∧ p.2.2 ≠ 0) ∧ ∀ a ∈ as, a.1 < m ∧ a.2 < m
def preCase (ds : List D) : Prop := ∃ (ns : List Int) (m at0 : Int), ds = [.lst (ns.map .int), .int m, .int at0] ∧ 0 ≤ m ∧ m ≤ 10 ∧ 0 ≤ at0
def relCase (ds : List D) (r : D) : Prop := ∀ (ns : List Int) (m at0 : Int), ds = [.lst (ns.map .int), .int m, .int at0] → ∃ ps as, r = .tup [.lst (ps.map encP), .lst (as.map encA)] ∧ ps.length ≤ 100 ∧ as.length ≤ 100 ∧ GoodC m.toNat ps as
theorem cell_int (ns : List Int) (k : Int) : ∃ i, resCell [.lst (ns.map .int), .int k] = .int i := by
  show ∃ i, (ns.map D.int).getD k.toNat (.int 0) = .int i
  rw [List.getD_eq_getElem?_getD, List.getElem?_map]
  cases ns[k.toNat]? <;> exact ⟨_, rfl⟩
theorem ok_law_case (Z : Tx K mg f_joined f_parts_of f_case_of f_law_cell_at f_law_weight f_law_case f_law_labels f_law_due f_law_is_whole f_law_case_due f_law d_joined d_parts_of d_case_of d_law_cell_at d_law_weight d_law_case d_law_labels d_law_due d_law_is_whole d_law_case_due d_law) : FnOk P w K mg base CX0 2 f_law_case d_law_case ["_law_script", "_law_many", "_law_at"] (SpRD K preCase relCase) := by
  have G_law_cell_at := ok_law_cell_at (P := P) (w := w) (base := base) Z
  have G_law_weight := ok_law_weight (P := P) (w := w) (base := base) Z
  refine Z.F_law_case.ok sc_law_case (fun vs H Q E h => spRD_len (n := 3) (by rintro ds ⟨c, d, e, rfl, _⟩; rfl) h) (fun cdv A outer s H vs Q E hr h => ⟨_, (pss_cons (ps_set (i := 3) sc_law_case.nd rfl (Or.inl rfl) (pe_lst pa_nil))
      (pss_cons (ps_set (i := 4) sc_law_case.nd rfl (Or.inl rfl) (pe_lst pa_nil))
      (pss_cons (ps_for PassesOwn.never rfl (pi_range1 (by rfl) Z.z_range (pa_cons (pv 1) pa_nil)) (pg_name (i := 5) sc_law_case.nd rfl (Or.inl rfl)) (pss_one (ps_for PassesOwn.never rfl (pi_range2 (by rfl) Z.z_range (pa_cons (pe_op op_add (pv 5) pe_int) (pa_cons (pv 1) pa_nil))) (pg_name (i := 6) sc_law_case.nd rfl (Or.inl rfl)) (pss_cons (ps_set (i := 7) sc_law_case.nd rfl (Or.inl rfl) (pe_call G_law_cell_at (hr.mono (by decide)) (by rfl) Z.M_law_cell_at Z.F_law_cell_at.kp Z.B_law_cell_at .nil pass0 (pa_cons (pv 0) (pa_cons (pv 2) pa_nil))))
      (pss_cons (ps_set (i := 2) sc_law_case.nd rfl (Or.inl rfl) (pe_op op_add (pv 2) pe_int))
      (pss_cons (ps_if (pt_cmpR op_gt (pe_op op_mod (pv 7) pe_int) pe_int (nomark _)) (pss_one (ps_expr (pe_bm F.plainAttrs_list F.slot_list_append F.type_list_append mt_append (pv 3) (pa_cons (pe_tup (pa_cons (pv 5) (pa_cons (pv 6) (pa_cons (pe_call G_law_weight (hr.mono (by decide)) (by rfl) Z.M_law_weight Z.F_law_weight.kp Z.B_law_weight .nil pass0 (pa_cons (pv 7) pa_nil)) pa_nil)))) pa_nil)))) pss_nil)
      (pss_one (ps_if (pt_cmpR op_eq (pe_op op_mod (pe_op op_fdiv (pv 7) pe_int) pe_int) pe_int (nomark _)) (pss_one (ps_expr (pe_bm F.plainAttrs_list F.slot_list_append F.type_list_append mt_append (pv 4) (pa_cons (pe_tup (pa_cons (pv 5) (pa_cons (pv 6) pa_nil))) pa_nil)))) pss_nil))))))))
      (pss_one (ps_ret (pe_tup (pa_cons (pv 3) (pa_cons (pv 4) pa_nil)))))))), ?_⟩)
  refine go_spRD h (by rw [spRD_len (n := 3) (by rintro ds ⟨c, d, e, rfl, _⟩; rfl) h]; decide) fun G ds hp rt => ?_
  obtain ⟨ns, m, at0, rfl, hm0, hm8, ha0⟩ := hp
  refine go_seq (go_setO (evo_lst evaf_nil (small (by decide))) fun pp => ?_)
  ((try dsimp only); refine nx_go ?_)
  refine go_seq (go_setO (evo_lst evaf_nil (small (by decide))) fun pa => ?_)
  ((try dsimp only); refine nx_go ?_)
  refine go_seq (go_range (n := m) (fun k ss => ∃ (at' : Int) (ps : List Pr) (as : List Apt) (v5 v6 v7 : Sl), ss = [.d (.lst (ns.map .int)), .d (.int m), .d (.int at'), .o pp (ps.map encP), .o pa (as.map encA), v5, v6, v7] ∧ 0 ≤ at' ∧ ps.length ≤ 10 * k ∧ as.length ≤ 10 * k ∧ GoodC m.toNat ps as) (eva_cons (ev_var rfl).b eva_nil) ⟨by omega, by omega⟩ ⟨at0, [], [], .un, .un, .un, rfl, ha0, by simp, by simp, by simp, by simp⟩ ?_ ?_ (fun _ _ _ h => h))
  · rintro k ss hk ⟨at1, ps, as, v5, v6, v7, rfl, h0, hpl, hal, hg⟩ N hN
    refine go_range2 (m := (k : Int) + 1) (n := m) (fun q ss => ∃ (at' : Int) (ps : List Pr) (as : List Apt) (v6 v7 : Sl), ss = [.d (.lst (ns.map .int)), .d (.int m), .d (.int at'), .o pp (ps.map encP), .o pa (as.map encA), .d (.int k), v6, v7] ∧ 0 ≤ at' ∧ ps.length ≤ 10 * k + q ∧ as.length ≤ 10 * k + q ∧ GoodC m.toNat ps as) (eva_cons (ev_add (ev_var rfl).b ev_int.b).b (eva_cons (ev_var rfl).b eva_nil)) ⟨by omega, by omega⟩ ⟨by omega, by omega⟩ ⟨at1, ps, as, v6, v7, rfl, h0, hpl, hal, hg⟩ ?_ ?_
    · rintro q ss hq ⟨at2, ps, as, v6, v7, rfl, h0, hpl, hal, hg⟩ N2 hN2
      have ej : (k : Int) + 1 + (q : Int) = ((k + 1 + q : Nat) : Int) := by omega
      rw [ej]
      obtain ⟨c, ec⟩ := cell_int ns at2
      refine go_seq (go_set (d := .int c) (by rw [← ec]; exact ev_call (pre := preCell) (res := resCell) (evaf_cons (ev_var rfl) (evaf_cons (ev_var rfl) evaf_nil)) ⟨ns, at2, rfl, h0⟩) ?_)
      ((try dsimp only); refine nx_go ?_)
      refine go_seq (go_set (ev_add (ev_var rfl).b ev_int.b) ?_)
      ((try dsimp only); refine nx_go ?_)
      refine go_join (fun ss => ∃ ps1 : List Pr, ss = [.d (.lst (ns.map .int)), .d (.int m), .d (.int (at2 + 1)), .o pp (ps1.map encP), .o pa (as.map encA), .d (.int k), .d (.int ((k + 1 + q : Nat) : Int)), .d (.int c)] ∧ ps1.length ≤ 10 * k + (q + 1) ∧ GoodC m.toNat ps1 as) (fun N' hN' => go_if (evt_test (ev_gt (ev_mod (ev_var rfl).b ev_int.b (by decide)).b ev_int.b)) (fun hb => ?_) (fun hb => ?_)) ?_
      · have hc : 0 < c % 8 := of_decide_eq_true hb
        refine go_append (d := encP (k, k + 1 + q, wF c)) rfl (ev_tup (evaf_cons (ev_var rfl) (evaf_cons (ev_var rfl) (evaf_cons (ev_call (pre := preW) (res := resW) (evaf_cons (ev_var rfl) evaf_nil) ⟨c, rfl⟩) evaf_nil))) (small (by simp))) (by rw [List.length_map, sizeLine_eq]; omega) (hN' _ ⟨ps ++ [(k, k + 1 + q, wF c)], by rw [List.map_append]; rfl, by simp; omega, fun p hp => ?_, hg.2⟩)
        rcases List.mem_append.mp hp with z | z
        · exact hg.1 p z
        · rw [List.mem_singleton] at z
          subst z
          exact ⟨by show k < m.toNat; omega, by show k + 1 + q < m.toNat; omega, wF_ne c hc⟩
      · exact go_next (hN' _ ⟨ps, rfl, by omega, hg⟩)
      · rintro ss ⟨ps1, rfl, hpl1, hg1⟩
        refine go_if (evt_test (ev_eqI (ev_mod (ev_fdiv (ev_var rfl).b ev_int.b ⟨by decide, by decide⟩).b ev_int.b (by decide)).b ev_int.b)) (fun hb => ?_) (fun hb => ?_)
        · refine go_append (d := encA (k, k + 1 + q)) rfl (ev_tup (evaf_cons (ev_var rfl) (evaf_cons (ev_var rfl) evaf_nil)) (small (by simp))) (by rw [List.length_map, sizeLine_eq]; omega) (hN2 _ ⟨at2 + 1, ps1, as ++ [(k, k + 1 + q)], _, _, by rw [List.map_append]; rfl, by omega, hpl1, by simp; omega, hg1.1, fun a ha => ?_⟩)
          rcases List.mem_append.mp ha with z | z
          · exact hg1.2 a z
          · rw [List.mem_singleton] at z
            subst z
            exact ⟨by show k < m.toNat; omega, by show k + 1 + q < m.toNat; omega⟩
        · exact go_next (hN2 _ ⟨at2 + 1, ps1, as, _, _, rfl, by omega, hpl1, by omega, hg1⟩)
    · rintro ss ⟨at2, ps, as, v6, v7, rfl, h0, hpl, hal, hg⟩
      exact hN _ ⟨at2, ps, as, _, v6, v7, rfl, h0, by omega, by omega, hg⟩
  · rintro ss ⟨at1, ps, as, v5, v6, v7, rfl, h0, hpl, hal, hg⟩
    refine nx_freeze (i := 3) rfl (nx_freeze (i := 4) rfl ?_)
    ((try dsimp only); refine nx_go ?_)
    refine go_ret (ev_tup (evaf_cons (ev_var rfl) (evaf_cons (ev_var rfl) evaf_nil)) (small (by simp))) (rt _ fun ns' m' at' he => ?_)
    simp only [List.cons.injEq, D.int.injEq, and_true] at he
    obtain ⟨_, rfl, _⟩ := he
    exact ⟨ps, as, rfl, by omega, by omega, hg⟩
def encN (n : Nat) : D := .int n
theorem encN_inj (a b : Nat) (h : encN a = encN b) : a = b := by unfold encN at h; injection h with h; omega
def unN : D → Nat
  | .int i => i.toNat
  | _ => 0
theorem unN_map (xs : List Nat) : (xs.map encN).map unN = xs := by rw [List.map_map]; exact List.map_id xs
def kp (i j : Nat) : Nat := if j < i then j else i
def lo (i j : Nat) : Nat := if j > i then j else i
theorem kp_int (i j : Nat) : (if (j : Int) < (i : Int) then (j : Int) else (i : Int)) = ((kp i j : Nat) : Int) := by unfold kp; split <;> split <;> omega
theorem lo_int (i j : Nat) : (if (j : Int) > (i : Int) then (j : Int) else (i : Int)) = ((lo i j : Nat) : Int) := by unfold lo; split <;> split <;> omega
def ufS (f : Nat → Nat) (l : Apt) : Nat → Nat := stepF (kp (f l.1) (f l.2)) (lo (f l.1) (f l.2)) f
def ufF (ls : List Apt) : Nat → Nat := ls.foldl ufS id
theorem ufF_snoc (ls : List Apt) (l : Apt) : ufF (ls ++ [l]) = ufS (ufF ls) l := by unfold ufF; rw [List.foldl_append]; rfl
theorem kp_lo (i j : Nat) : (kp i j = i ∧ lo i j = j) ∨ (kp i j = j ∧ lo i j = i) := by unfold kp lo; split <;> split <;> omega
theorem nodup_take {α : Type} {xs : List α} (h : xs.Nodup) {k : Nat} {x : α} (hk : xs[k]? = some x) : x ∉ xs.take k := fun hm => by
  obtain ⟨j, hj⟩ := List.mem_iff_getElem?.mp hm
  have hjk : j < k := by
    have := (List.getElem?_eq_some_iff.mp hj).1
    rw [List.length_take] at this; omega
  rw [List.getElem?_take, if_pos hjk] at hj
  have h1 := (List.getElem?_eq_some_iff.mp hj)
  have h2 := (List.getElem?_eq_some_iff.mp hk)
  unfold List.Nodup at h
  rw [List.pairwise_iff_getElem] at h
  exact h j k h1.1 h2.1 hjk (h1.2.trans h2.2.symm)
def partsD (xs : List Nat) (ls : List Apt) : List D := (partsF (ufF ls) xs).map fun p => .lst (p.map encN)
def preJ (ds : List D) : Prop := ∃ (xs : List Nat) (ls : List Apt), ds = [.lst (xs.map encN), .lst (ls.map encA)] ∧ xs.Nodup ∧ (∀ l ∈ ls, l.1 ∈ xs ∧ l.2 ∈ xs) ∧ xs.length ≤ 1000
def resJ : List D → List D
  | [.lst xs, .lst ls] => partsD (xs.map unN) (ls.map unA)
  | _ => []
theorem resJ_enc (xs : List Nat) (ls : List Apt) : resJ [.lst (xs.map encN), .lst (ls.map encA)] = partsD xs ls := by
  show partsD ((xs.map encN).map unN) ((ls.map encA).map unA) = _
  rw [unN_map, unA_map]
theorem ok_joined (Z : Tx K mg f_joined f_parts_of f_case_of f_law_cell_at f_law_weight f_law_case f_law_labels f_law_due f_law_is_whole f_law_case_due f_law d_joined d_parts_of d_case_of d_law_cell_at d_law_weight d_law_case d_law_labels d_law_due d_law_is_whole d_law_case_due d_law) : FnOk P w K mg base CX0 1 f_joined d_joined ["things", "links"] (SpO K preJ resJ) := by
  refine Z.F_joined.ok sc_joined (fun vs H Q E h => spO_len (n := 2) (by rintro ds ⟨c, d, rfl, _⟩; rfl) h) (fun cdv A outer s H vs Q E hr h => ⟨_, (pss_cons (ps_set (i := 2) sc_joined.nd rfl (Or.inl rfl) pe_dnewK)
      (pss_cons (ps_for PassesOwn.never rfl (pi_list (pv 0)) (pg_name (i := 3) sc_joined.nd rfl (Or.inl rfl)) (pss_one (ps_dput (hu_of hr) (pv 2) (pv 3) (pv 3) rfl)))
      (pss_cons (ps_for PassesOwn.never rfl (pi_list (pv 1)) (pg_tup rfl (pgs_cons (pg_name (i := 4) sc_joined.nd rfl (Or.inl rfl)) (pgs_cons (pg_name (i := 5) sc_joined.nd rfl (Or.inl rfl)) pgs_nil))) (pss_cons (ps_set (i := 6) sc_joined.nd rfl (Or.inl rfl) (pe_callB (call_min2 rfl) (by rfl) Z.z_min boot_min (pa_cons (pe_dget (hu_of hr) (pv 2) (pv 4) (fun _ _ => rfl)) (pa_cons (pe_dget (hu_of hr) (pv 2) (pv 5) (fun _ _ => rfl)) pa_nil))))
      (pss_cons (ps_set (i := 7) sc_joined.nd rfl (Or.inl rfl) (pe_callB (call_max2 rfl) (by rfl) Z.z_max boot_max (pa_cons (pe_dget (hu_of hr) (pv 2) (pv 4) (fun _ _ => rfl)) (pa_cons (pe_dget (hu_of hr) (pv 2) (pv 5) (fun _ _ => rfl)) pa_nil))))
      (pss_one (ps_for PassesOwn.never rfl (pi_list (pv 0)) (pg_name (i := 3) sc_joined.nd rfl (Or.inl rfl)) (pss_one (ps_if (pt_cmpR op_eq (pe_dget (hu_of hr) (pv 2) (pv 3) (fun _ _ => rfl)) (pv 7) (nomark _)) (pss_one (ps_dput (hu_of hr) (pv 2) (pv 3) (pv 6) rfl)) pss_nil)))))))
      (pss_cons (ps_set (i := 8) sc_joined.nd rfl (Or.inl rfl) pe_dnewK)
      (pss_cons (ps_for PassesOwn.never rfl (pi_list (pv 0)) (pg_name (i := 3) sc_joined.nd rfl (Or.inl rfl)) (pss_one (ps_expr (pe_bm F.plainAttrs_list F.slot_list_append F.type_list_append mt_append (pe_bm F.plainAttrs_dict F.slot_dict_setdefault F.type_dict_setdefault mt_setdefault (pv 8) (pa_cons (pe_dget (hu_of hr) (pv 2) (pv 3) (fun _ _ => rfl)) (pa_cons (pe_lst pa_nil) pa_nil))) (pa_cons (pv 3) pa_nil)))))
      (pss_one (ps_ret (pe_callTy (show CallR _ _ rListVals from call_list_vals rfl) (by rfl) Z.z_list boot_list (pa_cons (pe_bm0 F.plainAttrs_dict F.slot_dict_values F.type_dict_values mt_values (pv 8)) pa_nil))))))))), ?_⟩)
  refine go_spO h (by rw [spO_len (n := 2) (by rintro ds ⟨c, d, rfl, _⟩; rfl) h]; decide) fun G ds hp rt => ?_
  obtain ⟨xs, ls, rfl, hnd, hls, hxl⟩ := hp
  rw [resJ_enc] at rt
  have hz : ∀ {n : Nat}, n ≤ 1000 → n < sizeLine := fun h => by rw [sizeLine_eq]; omega
  have dl : ∀ (ys : List Nat) (f : Nat → Nat), (dA encN encN ys f).length = ys.length := fun ys f => by unfold dA; rw [List.length_map]
  refine go_seq (go_setM fun p => ?_)
  ((try dsimp only); refine nx_go ?_)
  refine go_seq (go_for encN xs (fun k ss => ∃ v3 : Sl, ss = [.d (.lst (xs.map encN)), .d (.lst (ls.map encA)), dsl K p (dA encN encN (xs.take k) id), v3, .un, .un, .un, .un, .un]) (ev_var rfl) ⟨.un, rfl⟩ ?_ ?_)
  · rintro L' k x ss hL hk ⟨v3, rfl⟩
    refine ⟨_, tg_name, fun N hN => ?_⟩
    refine go_dput (i := 2) (d := encN x) (k := encN x) rfl (ev_var rfl) (ev_var rfl).b rfl (hz (by rw [dl, List.length_take]; omega)) (hN _ ⟨.d (encN x), ?_⟩)
    have e : putD (dA encN encN (xs.take k) id) (encN x) (encN x) = dA encN encN (xs.take (k + 1)) id := by
      rw [List.take_add_one, hk]
      exact putD_new (f := id) encN_inj (nodup_take hnd hk)
    rw [e]; rfl
  rintro ss ⟨v3, rfl⟩
  rw [List.take_length]
  ((try dsimp only); refine nx_go ?_)
  refine go_seq (go_for encA ls (fun k ss => ∃ (f : Nat → Nat) (v3 v4 v5 v6 v7 : Sl), ss = [.d (.lst (xs.map encN)), .d (.lst (ls.map encA)), dsl K p (dA encN encN xs f), v3, v4, v5, v6, v7, .un] ∧ ∀ t ∈ xs, f t = ufF (ls.take k) t) (ev_var rfl) ⟨id, _, _, _, _, _, rfl, fun _ _ => rfl⟩ ?_ ?_)
  · rintro L' k l ss hL hk ⟨f, v3, v4, v5, v6, v7, rfl, hf⟩
    refine ⟨_, tg_tup rfl (tgs_cons tg_name (tgs_cons tg_name tgs_nil)), fun N hN => ?_⟩
    obtain ⟨h1, h2⟩ := hls l (List.mem_of_getElem? hk)
    refine go_seq (go_set (d := encN (kp (f l.1) (f l.2))) (by unfold encN; rw [← kp_int]; exact ev_minI (ev_dget (k := encN l.1) (d := encN (f l.1)) rfl (ev_var rfl).b rfl (valD_in encN_inj h1)).b (ev_dget (k := encN l.2) (d := encN (f l.2)) rfl (ev_var rfl).b rfl (valD_in encN_inj h2)).b) ?_)
    ((try dsimp only); refine nx_go ?_)
    refine go_seq (go_set (d := encN (lo (f l.1) (f l.2))) (by unfold encN; rw [← lo_int]; exact ev_maxI (ev_dget (k := encN l.1) (d := encN (f l.1)) rfl (ev_var rfl).b rfl (valD_in encN_inj h1)).b (ev_dget (k := encN l.2) (d := encN (f l.2)) rfl (ev_var rfl).b rfl (valD_in encN_inj h2)).b) ?_)
    ((try dsimp only); refine nx_go ?_)
    generalize hkk : kp (f l.1) (f l.2) = kk
    generalize hll : lo (f l.1) (f l.2) = ll
    refine go_for encN xs (fun q ss => ∃ (g : Nat → Nat) (v3 : Sl), ss = [.d (.lst (xs.map encN)), .d (.lst (ls.map encA)), dsl K p (dA encN encN xs g), v3, .d (encN l.1), .d (encN l.2), .d (encN kk), .d (encN ll), .un] ∧ (∀ t ∈ xs.take q, g t = stepF kk ll f t) ∧ ∀ t, t ∉ xs.take q → g t = f t) (ev_var rfl) ⟨f, _, rfl, (fun t ht => by simp at ht), fun _ _ => rfl⟩ ?_ ?_
    · rintro L2 q x ss hL2 hq ⟨g, v3, rfl, hg1, hg2⟩
      refine ⟨_, tg_name, fun N2 hN2 => ?_⟩
      have hx : x ∈ xs := List.mem_of_getElem? hq
      have hxn := nodup_take hnd hq
      have ext : xs.take (q + 1) = xs.take q ++ [x] := by rw [List.take_add_one, hq]; rfl
      have egx : g x = f x := hg2 x hxn
      refine go_if (evt_test (ev_eqI (i := (g x : Nat)) (j := (ll : Nat)) (ev_dget (k := encN x) (d := encN (g x)) rfl (ev_var rfl).b rfl (valD_in encN_inj hx)).b (ev_var rfl).b)) (fun hb => ?_) (fun hb => ?_)
      · have hb : g x = ll := by have := of_decide_eq_true hb; omega
        refine go_dput (i := 2) (d := encN kk) (k := encN x) rfl (ev_var rfl) (ev_var rfl).b rfl (hz (by rw [dl]; omega)) (hN2 _ ⟨fun u => if u = x then kk else g u, _, by rw [putD_in encN_inj hx]; rfl, fun t ht => ?_, fun t ht => ?_⟩)
        · rw [ext] at ht
          show (if t = x then kk else g t) = _
          rcases List.mem_append.mp ht with ht | ht
          · rw [if_neg (fun z : t = x => hxn (z ▸ ht))]; exact hg1 t ht
          · rw [List.mem_singleton.mp ht, if_pos rfl]
            unfold stepF
            rw [if_pos (egx.symm.trans hb)]
        · rw [ext] at ht
          have h3 : t ≠ x := fun z => ht (by rw [z]; simp)
          show (if t = x then kk else g t) = _
          rw [if_neg h3]
          exact hg2 t fun z => ht (List.mem_append_left _ z)
      · have hb : g x ≠ ll := by have := of_decide_eq_false hb; omega
        refine go_next (hN2 _ ⟨g, _, rfl, fun t ht => ?_, fun t ht => ?_⟩)
        · rw [ext] at ht
          rcases List.mem_append.mp ht with ht | ht
          · exact hg1 t ht
          · rw [List.mem_singleton.mp ht]
            unfold stepF
            rw [if_neg (by rw [← egx]; exact hb), egx]
        · rw [ext] at ht
          exact hg2 t fun z => ht (List.mem_append_left _ z)
    · rintro ss ⟨g, v3, rfl, hg1, hg2⟩
      rw [List.take_length] at hg1
      refine hN _ ⟨g, _, _, _, _, _, rfl, fun t ht => ?_⟩
      have e : ls.take (k + 1) = ls.take k ++ [l] := by rw [List.take_add_one, hk]; rfl
      rw [hg1 t ht, e, ufF_snoc]
      unfold ufS
      rw [← hf l.1 h1, ← hf l.2 h2, hkk, hll]
      unfold stepF
      rw [hf t ht]
  rintro ss ⟨f, v3, v4, v5, v6, v7, rfl, hf⟩
  rw [List.take_length] at hf
  ((try dsimp only); refine nx_go ?_)
  refine go_seq (go_setML fun p2 => ?_)
  ((try dsimp only); refine nx_go ?_)
  refine go_seq (go_for encN xs (fun k ss => ∃ (kqs : KQ) (v3 : Sl), ss = [.d (.lst (xs.map encN)), .d (.lst (ls.map encA)), dsl K p (dA encN encN xs f), v3, v4, v5, v6, v7, dls K p2 kqs] ∧ kqs.map dat = grpD encN encN f (xs.take k)) (ev_var rfl) ⟨[], _, rfl, rfl⟩ ?_ ?_)
  · rintro L' k x ss hL hk ⟨kqs, v3, rfl, hq⟩
    refine ⟨_, tg_name, fun N hN => ?_⟩
    have hx : x ∈ xs := List.mem_of_getElem? hk
    have hlen : kqs.length ≤ xs.length := by
      have h1 := congrArg List.length hq
      rw [List.length_map] at h1
      have h2 := grpD_len (enc := encN) (encB := encN) (f := f) (xs := xs.take k)
      rw [List.length_take] at h2
      omega
    refine go_dapp (i := 8) (k := encN (f x)) (d := encN x) rfl (ev_dget (k := encN x) (d := encN (f x)) rfl (ev_var rfl).b rfl (valD_in encN_inj hx)).b rfl (fun kqs' => ev_var rfl) (hz (by omega)) (fun z hzm => hz ?_) fun kqs' he => hN _ ⟨kqs', _, rfl, ?_⟩
    · have : dat z ∈ grpD encN encN f (xs.take k) := by rw [← hq]; exact List.mem_map_of_mem hzm
      have := grpD_item this
      rw [List.length_take] at this
      have e : (dat z).2 = z.2.2 := rfl
      rw [e] at this
      omega
    · rw [he, hq, List.take_add_one, hk]
      exact appD_grp encN_inj
  rintro ss ⟨kqs, v3, rfl, hq⟩
  rw [List.take_length] at hq
  refine nx_freezeL (i := 8) rfl ?_
  ((try dsimp only); refine nx_go ?_)
  have e : (kqs.map frzL).map (·.2) = partsD xs ls := by
    have h1 : (kqs.map frzL).map (·.2) = (kqs.map dat).map fun q => D.lst q.2 := by rw [List.map_map, List.map_map]; rfl
    rw [h1, hq, grpD_vals]
    unfold partsD
    rw [partsF_congr (g := ufF ls) fun a ha b hb => by rw [hf a ha, hf b hb]]
  refine go_retO (evo_vals (i := 8) rfl) ?_
  rw [e]; exact rt
def linkP (as : List Apt) (p : Pr) : Bool := decide (0 < p.2.2) && !decide (encA (p.1, p.2.1) ∈ as.map encA)
def linksF (ps : List Pr) (as : List Apt) : List Apt := (ps.filter (linkP as)).map fun p => (p.1, p.2.1)
theorem encA_nb (a : Apt) : (encA a).nb = true := rfl
def preP (ds : List D) : Prop := ∃ (m : Nat) (ps : List Pr) (as : List Apt), ds = [.int m, .lst (ps.map encP), .lst (as.map encA)] ∧ m ≤ 10 ∧ ps.length ≤ 100 ∧ as.length ≤ 100 ∧ GoodC m ps as
def resP : List D → List D
  | [.int m, .lst ps, .lst as] => partsD (List.range m.toNat) (linksF (ps.map unP) (as.map unA))
  | _ => []
theorem resP_enc (m : Nat) (ps : List Pr) (as : List Apt) : resP [.int m, .lst (ps.map encP), .lst (as.map encA)] = partsD (List.range m) (linksF ps as) := by
  show partsD (List.range (m : Int).toNat) (linksF ((ps.map encP).map unP) ((as.map encA).map unA)) = _
  rw [unP_map, unA_map]; rfl
theorem links_in {m : Nat} {ps : List Pr} {as : List Apt} (hg : GoodC m ps as) : ∀ l ∈ linksF ps as, l.1 ∈ List.range m ∧ l.2 ∈ List.range m := fun l hl => by
  obtain ⟨p, hp, rfl⟩ := List.mem_map.mp hl
  have := hg.1 p (List.mem_filter.mp hp).1
  exact ⟨List.mem_range.mpr this.1, List.mem_range.mpr this.2.1⟩
theorem ok_parts_of (Z : Tx K mg f_joined f_parts_of f_case_of f_law_cell_at f_law_weight f_law_case f_law_labels f_law_due f_law_is_whole f_law_case_due f_law d_joined d_parts_of d_case_of d_law_cell_at d_law_weight d_law_case d_law_labels d_law_due d_law_is_whole d_law_case_due d_law) : FnOk P w K mg base CX0 2 f_parts_of d_parts_of ["many", "pairs", "aparts"] (SpO K preP resP) := by
  have G_joined := ok_joined (P := P) (w := w) (base := base) Z
  refine Z.F_parts_of.ok sc_parts_of (fun vs H Q E h => spO_len (n := 3) (by rintro ds ⟨c, d, e, rfl, _⟩; rfl) h) (fun cdv A outer s H vs Q E hr h => ⟨_, (pss_cons (ps_setLC (i := 3) sc_parts_of.nd rfl (Or.inl rfl) rfl (LcOk.of (Nx := (["many", "pairs", "aparts", "links"] : List Str)) (sc := defScope s_parts_of) (N' := (["i", "j", "weight", "aparts"] : List Str)) (nt := 3) (cs := [2]) rfl rfl (by decide +kernel)) (pi_list (pv 1)) (fun _ _ _ _ => (show PG _ _ (gTup K 3 _) from pg_tup rfl (pgs_cons (pg_name (i := 0) (show List.Nodup (["i", "j", "weight", "aparts"] : List Str) by decide +kernel) rfl (Or.inl rfl)) (pgs_cons (pg_name (i := 1) (show List.Nodup (["i", "j", "weight", "aparts"] : List Str) by decide +kernel) rfl (Or.inl rfl)) (pgs_cons (pg_name (i := 2) (show List.Nodup (["i", "j", "weight", "aparts"] : List Str) by decide +kernel) rfl (Or.inl rfl)) pgs_nil))))) (fun _ _ _ _ => (pifs_one (pw_and (pt_cmpR op_gt (pv 2) pe_int (nomark _)) (pw_and1 (pt_cmpR (show OpR _ _ (rInD K true) from op_notInD hr.units) (pe_tup (pa_cons (pv 0) (pa_cons (pv 1) pa_nil))) (pv 3) (by with_unfolding_all rfl)))).pt)) (fun _ _ _ _ => (pe_tup (pa_cons (pv 0) (pa_cons (pv 1) pa_nil)))))
      (pss_one (ps_ret (pe_call G_joined (hr.mono (by decide)) (by rfl) Z.M_joined Z.F_joined.kp Z.B_joined .nil pass0 (pa_cons (pe_callTy (show CallR _ _ rListRng from call_list_rng rfl) (by rfl) Z.z_list boot_list (pa_cons (pe_range1 (by rfl) Z.z_range (pa_cons (pv 0) pa_nil)) pa_nil)) (pa_cons (pv 3) pa_nil)))))), ?_⟩)
  refine go_spO h (by rw [spO_len (n := 3) (by rintro ds ⟨c, d, e, rfl, _⟩; rfl) h]; decide) fun G ds hp rt => ?_
  obtain ⟨m, ps, as, rfl, hm, hpl, hal, hg⟩ := hp
  rw [resP_enc] at rt
  have e1 : (ps.filter (linkP as)).map (fun p => encA (p.1, p.2.1)) = (linksF ps as).map encA := by unfold linksF; rw [List.map_map]; rfl
  refine go_seq (go_setO (ds := (linksF ps as).map encA) (by
    rw [← e1]
    exact evo_lcX ps encP (linkP as) (fun p => encA (p.1, p.2.1)) (ev_var rfl).l (gk_tup (gks_cons (gk_name (by decide)) (gks_cons (gk_name (by decide)) (gks_cons (gk_name (by decide)) gks_nil)))) (by decide) (by rw [sizeLine_eq]; omega) fun p hp => ⟨_, tg_tup rfl (tgs_cons tg_name (tgs_cons tg_name (tgs_cons tg_name tgs_nil))),
      evt_and (evt_test (ev_gt (ev_var rfl).b ev_int.b)) fun _ => evt_test (ev_notInD (d := encA (p.1, p.2.1)) (Ev.b (ev_tup (evaf_cons (ev_var rfl) (evaf_cons (ev_var rfl) evaf_nil)) (small (by simp)))) (ev_var rfl).b rfl (D.nbs_map encA_nb as) (by show 1 ≤ 60; decide)),
      fun _ => ev_tup (evaf_cons (ev_var rfl) (evaf_cons (ev_var rfl) evaf_nil)) (small (by simp))⟩) fun p => nx_freeze (i := 3) rfl ?_)
  ((try dsimp only); refine nx_go ?_)
  have := resJ_enc (List.range m) (linksF ps as)
  refine go_retO (ds := partsD (List.range m) (linksF ps as)) (by
    rw [← this]
    exact evo_call (pre := preJ) (res := resJ) (evaf_cons (EvO.ev (evo_listrange (n := m) (ev_var rfl).b (by omega))) (evaf_cons (ev_var rfl) evaf_nil)) ⟨List.range m, linksF ps as, rfl, List.nodup_range, links_in hg, by simp; omega⟩) rt
def idxP (part : List Nat) (p : Pr) : D := .tup [.int (part.idxOf p.1 : Nat), .int (part.idxOf p.2.1 : Nat), .int p.2.2]
def idxA (part : List Nat) (a : Apt) : D := .tup [.int (part.idxOf a.1 : Nat), .int (part.idxOf a.2 : Nat)]
def caseF (part : List Nat) (ps : List Pr) (as : List Apt) : D := .tup [.int part.length, .lst ((ps.filter fun p => decide (p.1 ∈ part) && decide (p.2.1 ∈ part)).map (idxP part)), .lst ((as.filter fun a => decide (a.1 ∈ part) && decide (a.2 ∈ part)).map (idxA part))]
def preC (ds : List D) : Prop := ∃ (part : List Nat) (ps : List Pr) (as : List Apt), ds = [.lst (part.map encN), .lst (ps.map encP), .lst (as.map encA)] ∧ part.Nodup ∧ part.length ≤ 100 ∧ ps.length ≤ 100 ∧ as.length ≤ 100
def resC : List D → D
  | [.lst part, .lst ps, .lst as] => caseF (part.map unN) (ps.map unP) (as.map unA)
  | _ => .non
theorem resC_enc (part : List Nat) (ps : List Pr) (as : List Apt) : resC [.lst (part.map encN), .lst (ps.map encP), .lst (as.map encA)] = caseF part ps as := by
  show caseF ((part.map encN).map unN) ((ps.map encP).map unP) ((as.map encA).map unA) = _
  rw [unN_map, unP_map, unA_map]
theorem idx_at {part : List Nat} (h : part.Nodup) {k x : Nat} (hk : part[k]? = some x) : part.idxOf x = k := by
  have hm : x ∈ part := List.mem_of_getElem? hk
  have hl := List.idxOf_lt_length_iff.mpr hm
  have h1 := List.getElem_idxOf hl
  obtain ⟨h2, h3⟩ := List.getElem?_eq_some_iff.mp hk
  unfold List.Nodup at h
  rw [List.pairwise_iff_getElem] at h
  rcases Nat.lt_trichotomy (part.idxOf x) k with c | c | c
  · exact absurd (h1.trans h3.symm) (h _ _ hl h2 c)
  · exact c
  · exact absurd (h3.trans h1.symm) (h _ _ h2 hl c)
theorem some_in (part : List Nat) (f : Nat → Nat) (i : Nat) : (valD (dA encN encN part f) (encN i)).isSome = decide (i ∈ part) := by
  by_cases h : i ∈ part
  · rw [valD_in encN_inj h, decide_eq_true h]; rfl
  · rw [valD_out encN_inj h, decide_eq_false h]; rfl
theorem ok_case_of (Z : Tx K mg f_joined f_parts_of f_case_of f_law_cell_at f_law_weight f_law_case f_law_labels f_law_due f_law_is_whole f_law_case_due f_law d_joined d_parts_of d_case_of d_law_cell_at d_law_weight d_law_case d_law_labels d_law_due d_law_is_whole d_law_case_due d_law) : FnOk P w K mg base CX0 1 f_case_of d_case_of ["part", "pairs", "aparts"] (SpD K preC resC) := by
  refine Z.F_case_of.ok sc_case_of (fun vs H Q E h => spD_len (n := 3) (by rintro ds ⟨c, d, e, rfl, _⟩; rfl) h) (fun cdv A outer s H vs Q E hr h => ⟨_, (pss_cons (ps_set (i := 3) sc_case_of.nd rfl (Or.inr rfl) pe_dnewK)
      (pss_cons (ps_for PassesOwn.never rfl (pi_enum_list (by rfl) Z.z_enumerate (pa_cons (pv 0) pa_nil)) (pg_tup rfl (pgs_cons (pg_name (i := 4) sc_case_of.nd rfl (Or.inl rfl)) (pgs_cons (pg_name (i := 5) sc_case_of.nd rfl (Or.inl rfl)) pgs_nil))) (pss_one (ps_dput (hu_of hr) (pv 3) (pv 5) (pv 4) rfl)))
      (pss_cons (ps_setLC (i := 6) sc_case_of.nd rfl (Or.inl rfl) rfl (LcOk.of (Nx := (["part", "pairs", "aparts", "numbers", "number", "block", "inner_pairs", "inner_aparts"] : List Str)) (sc := defScope s_case_of) (N' := (["i", "j", "weight", "numbers"] : List Str)) (nt := 3) (cs := [3]) rfl rfl (by decide +kernel)) (pi_list (pv 1)) (fun _ _ _ _ => (show PG _ _ (gTup K 3 _) from pg_tup rfl (pgs_cons (pg_name (i := 0) (show List.Nodup (["i", "j", "weight", "numbers"] : List Str) by decide +kernel) rfl (Or.inl rfl)) (pgs_cons (pg_name (i := 1) (show List.Nodup (["i", "j", "weight", "numbers"] : List Str) by decide +kernel) rfl (Or.inl rfl)) (pgs_cons (pg_name (i := 2) (show List.Nodup (["i", "j", "weight", "numbers"] : List Str) by decide +kernel) rfl (Or.inl rfl)) pgs_nil))))) (fun _ _ _ _ => (pifs_one (pw_and (pt_cmp (pc_din (hu_of hr) (pv 0) (pv 3)) (by with_unfolding_all rfl)) (pw_and1 (pt_cmp (pc_din (hu_of hr) (pv 1) (pv 3)) (by with_unfolding_all rfl)))).pt)) (fun _ _ _ _ => (pe_tup (pa_cons (pe_dget (hu_of hr) (pv 3) (pv 0) (fun _ _ => rfl)) (pa_cons (pe_dget (hu_of hr) (pv 3) (pv 1) (fun _ _ => rfl)) (pa_cons (pv 2) pa_nil))))))
      (pss_cons (ps_setLC (i := 7) sc_case_of.nd rfl (Or.inl rfl) rfl (LcOk.of (Nx := (["part", "pairs", "aparts", "numbers", "number", "block", "inner_pairs", "inner_aparts"] : List Str)) (sc := defScope s_case_of) (N' := (["i", "j", "numbers"] : List Str)) (nt := 2) (cs := [3]) rfl rfl (by decide +kernel)) (pi_list (pv 2)) (fun _ _ _ _ => (show PG _ _ (gTup K 2 _) from pg_tup rfl (pgs_cons (pg_name (i := 0) (show List.Nodup (["i", "j", "numbers"] : List Str) by decide +kernel) rfl (Or.inl rfl)) (pgs_cons (pg_name (i := 1) (show List.Nodup (["i", "j", "numbers"] : List Str) by decide +kernel) rfl (Or.inl rfl)) pgs_nil)))) (fun _ _ _ _ => (pifs_one (pw_and (pt_cmp (pc_din (hu_of hr) (pv 0) (pv 2)) (by with_unfolding_all rfl)) (pw_and1 (pt_cmp (pc_din (hu_of hr) (pv 1) (pv 2)) (by with_unfolding_all rfl)))).pt)) (fun _ _ _ _ => (pe_tup (pa_cons (pe_dget (hu_of hr) (pv 2) (pv 0) (fun _ _ => rfl)) (pa_cons (pe_dget (hu_of hr) (pv 2) (pv 1) (fun _ _ => rfl)) pa_nil)))))
      (pss_one (ps_ret (pe_tup (pa_cons (pe_callB call_len_seq (by rfl) Z.z_len boot_len (pa_cons (pv 0) pa_nil)) (pa_cons (pv 6) (pa_cons (pv 7) pa_nil)))))))))), ?_⟩)
  refine go_spD h (by rw [spD_len (n := 3) (by rintro ds ⟨c, d, e, rfl, _⟩; rfl) h]; decide) fun G ds hp rt => ?_
  obtain ⟨part, ps, as, rfl, hnd, hl, hpl, hal⟩ := hp
  rw [resC_enc] at rt
  refine go_seq (go_setM fun p => ?_)
  ((try dsimp only); refine nx_go ?_)
  refine go_seq (go_enum encN part (fun k ss => ∃ v4 v5 : Sl, ss = [.d (.lst (part.map encN)), .d (.lst (ps.map encP)), .d (.lst (as.map encA)), dsl K p (dA encN encN (part.take k) part.idxOf), v4, v5, .un, .un]) (ev_var rfl) ⟨.un, .un, rfl⟩ ?_ ?_)
  · rintro L' k x ss hL hk ⟨v4, v5, rfl⟩
    refine ⟨_, tg_tup rfl (tgs_cons tg_name (tgs_cons tg_name tgs_nil)), fun N hN => ?_⟩
    refine go_dput (i := 3) (d := encN k) (k := encN x) rfl (ev_var rfl) (ev_var rfl).b rfl (by rw [sizeLine_eq]; unfold dA; rw [List.length_map, List.length_take]; omega) (hN _ ⟨.d (encN k), .d (encN x), ?_⟩)
    have e : putD (dA encN encN (part.take k) part.idxOf) (encN x) (encN k) = dA encN encN (part.take (k + 1)) part.idxOf := by
      rw [List.take_add_one, hk, ← idx_at hnd hk]
      exact putD_new (f := part.idxOf) encN_inj (by rw [idx_at hnd hk]; exact nodup_take hnd hk)
    rw [e]; rfl
  rintro ss ⟨v4, v5, rfl⟩
  rw [List.take_length]
  ((try dsimp only); refine nx_go ?_)
  have g1 : ∀ i : Nat, i ∈ part → valD (dA encN encN part part.idxOf) (encN i) = some (encN (part.idxOf i)) := fun i h => valD_in encN_inj h
  refine go_seq (go_setO (ds := (ps.filter fun p => decide (p.1 ∈ part) && decide (p.2.1 ∈ part)).map (idxP part)) (evo_lcX ps encP (fun p => decide (p.1 ∈ part) && decide (p.2.1 ∈ part)) (idxP part) (ev_var rfl).l (gk_tup (gks_cons (gk_name (by decide)) (gks_cons (gk_name (by decide)) (gks_cons (gk_name (by decide)) gks_nil)))) (by decide) (by rw [sizeLine_eq]; omega) fun q hq => ⟨_, tg_tup rfl (tgs_cons tg_name (tgs_cons tg_name (tgs_cons tg_name tgs_nil))),
      evt_and (by rw [← some_in part part.idxOf]; exact evt_b (ev_din (k := encN q.1) rfl (ev_var rfl).b rfl)) fun _ => (by rw [← some_in part part.idxOf]; exact evt_b (ev_din (k := encN q.2.1) rfl (ev_var rfl).b rfl)), fun hb => by
        rw [Bool.and_eq_true, decide_eq_true_eq, decide_eq_true_eq] at hb
        exact ev_tup (evaf_cons (ev_dget (k := encN q.1) rfl (ev_var rfl).b rfl (g1 _ hb.1)) (evaf_cons (ev_dget (k := encN q.2.1) rfl (ev_var rfl).b rfl (g1 _ hb.2)) (evaf_cons (ev_var rfl) evaf_nil))) (small (by simp))⟩)
    fun p6 => nx_freeze (i := 6) rfl ?_)
  ((try dsimp only); refine nx_go ?_)
  refine go_seq (go_setO (ds := (as.filter fun a => decide (a.1 ∈ part) && decide (a.2 ∈ part)).map (idxA part)) (evo_lcX as encA (fun a => decide (a.1 ∈ part) && decide (a.2 ∈ part)) (idxA part) (ev_var rfl).l (gk_tup (gks_cons (gk_name (by decide)) (gks_cons (gk_name (by decide)) gks_nil))) (by decide) (by rw [sizeLine_eq]; omega) fun q hq => ⟨_, tg_tup rfl (tgs_cons tg_name (tgs_cons tg_name tgs_nil)),
      evt_and (by rw [← some_in part part.idxOf]; exact evt_b (ev_din (k := encN q.1) rfl (ev_var rfl).b rfl)) fun _ => (by rw [← some_in part part.idxOf]; exact evt_b (ev_din (k := encN q.2) rfl (ev_var rfl).b rfl)), fun hb => by
        rw [Bool.and_eq_true, decide_eq_true_eq, decide_eq_true_eq] at hb
        exact ev_tup (evaf_cons (ev_dget (k := encN q.1) rfl (ev_var rfl).b rfl (g1 _ hb.1)) (evaf_cons (ev_dget (k := encN q.2) rfl (ev_var rfl).b rfl (g1 _ hb.2)) evaf_nil)) (small (by simp))⟩)
    fun p7 => nx_freeze (i := 7) rfl ?_)
  ((try dsimp only); refine nx_go ?_)
  refine go_ret (d := caseF part ps as) ?_ rt
  have ll : ((part.map encN).length : Int) = part.length := by rw [List.length_map]
  unfold caseF
  rw [← ll]
  exact ev_tup (evaf_cons (ev_lenL (ev_var rfl).l) (evaf_cons (ev_var rfl) (evaf_cons (ev_var rfl) evaf_nil))) (small (by simp))
def lbS (g : Nat → Nat) (l : Apt) : Nat → Nat := stepF (g l.2) (g l.1) g
def lbF (ls : List Apt) : Nat → Nat := ls.foldl lbS id
theorem lbF_snoc (ls : List Apt) (l : Apt) : lbF (ls ++ [l]) = lbS (lbF ls) l := by unfold lbF; rw [List.foldl_append]; rfl
theorem lb_uf {xs : List Nat} (ls : List Apt) : (∀ l ∈ ls, l.1 ∈ xs ∧ l.2 ∈ xs) → SameK xs (lbF ls) (ufF ls) := by
  induction ls using snoc_ind with
  | h0 => exact fun _ a _ b _ => Iff.rfl
  | hs ls l ih =>
    intro h
    rw [lbF_snoc, ufF_snoc]
    obtain ⟨h1, h2⟩ := h l (by simp)
    have hk := kp_lo (ufF ls l.1) (ufF ls l.2)
    exact ker_step h1 h2 (ih fun z hz => h z (List.mem_append_left _ hz)) (.inr ⟨rfl, rfl⟩) hk
def labD (m : Nat) (g : Nat → Nat) : List D := (List.range m).map fun t => encN (g t)
theorem labD_len (m : Nat) (g : Nat → Nat) : (labD m g).length = m := by unfold labD; simp
theorem at_lab {m : Nat} (g : Nat → Nat) {i : Nat} (h : i < m) : atI (labD m g) (i : Int) = some (encN (g i)) := atI_nat (by unfold labD; rw [List.getElem?_map, List.getElem?_range h]; rfl)
theorem at_two (x y : D) (b : Bool) : atI [x, y] (if b then 1 else 0) = some (if b then y else x) := by cases b <;> rfl
def resLb : List D → D
  | [.int m, .lst ps, .lst as] => .lst (labD m.toNat (lbF (linksF (ps.map unP) (as.map unA))))
  | _ => .non
theorem resLb_enc (m : Nat) (ps : List Pr) (as : List Apt) : resLb [.int m, .lst (ps.map encP), .lst (as.map encA)] = .lst (labD m (lbF (linksF ps as))) := by
  show D.lst (labD (m : Int).toNat (lbF (linksF ((ps.map encP).map unP) ((as.map encA).map unA)))) = _
  rw [unP_map, unA_map]; rfl
theorem linksF_snoc (ps : List Pr) (as : List Apt) (p : Pr) : linksF (ps ++ [p]) as = if linkP as p = true then linksF ps as ++ [(p.1, p.2.1)] else linksF ps as := by
  unfold linksF
  rw [List.filter_append]
  by_cases h : linkP as p = true
  · rw [if_pos h, List.filter_cons_of_pos h, List.filter_nil, List.map_append]; rfl
  · rw [if_neg h, List.filter_cons_of_neg h, List.filter_nil, List.append_nil]
theorem ok_law_labels (Z : Tx K mg f_joined f_parts_of f_case_of f_law_cell_at f_law_weight f_law_case f_law_labels f_law_due f_law_is_whole f_law_case_due f_law d_joined d_parts_of d_case_of d_law_cell_at d_law_weight d_law_case d_law_labels d_law_due d_law_is_whole d_law_case_due d_law) : FnOk P w K mg base CX0 1 f_law_labels d_law_labels ["_law_many", "_law_pairs", "_law_aparts"] (SpD K preP resLb) := by
  refine Z.F_law_labels.ok sc_law_labels (fun vs H Q E h => spD_len (n := 3) (by rintro ds ⟨c, d, e, rfl, _⟩; rfl) h) (fun cdv A outer s H vs Q E hr h => ⟨_, (pss_cons (ps_set (i := 3) sc_law_labels.nd rfl (Or.inr rfl) (pe_callTy (show CallR _ _ rListRng from call_list_rng rfl) (by rfl) Z.z_list boot_list (pa_cons (pe_range1 (by rfl) Z.z_range (pa_cons (pv 0) pa_nil)) pa_nil)))
      (pss_cons (ps_for PassesOwn.never rfl (pi_list (pv 1)) (pg_tup rfl (pgs_cons (pg_name (i := 4) sc_law_labels.nd rfl (Or.inl rfl)) (pgs_cons (pg_name (i := 5) sc_law_labels.nd rfl (Or.inr rfl)) (pgs_cons (pg_name (i := 6) sc_law_labels.nd rfl (Or.inl rfl)) pgs_nil)))) (pss_one (ps_if (pw_and (pt_cmpR op_gt (pv 6) pe_int (nomark _)) (pw_and1 (pt_cmpR (show OpR _ _ (rInD K true) from op_notInD hr.units) (pe_tup (pa_cons (pv 4) (pa_cons (pv 5) pa_nil))) (pv 2) (by with_unfolding_all rfl)))).pt (pss_cons (ps_set (i := 7) sc_law_labels.nd rfl (Or.inr rfl) (pe_ix (show IxR _ (rIxL K) from ix_list) (pv 3) (pv 4) (fun _ _ => rfl)))
      (pss_one (ps_set (i := 3) sc_law_labels.nd rfl (Or.inr rfl) (pe_lc rfl (LcOk.of (Nx := (["_law_many", "_law_pairs", "_law_aparts", "_law_labels_here", "_law_i", "_law_j", "_law_weight_here", "_law_old"] : List Str)) (sc := defScope s_law_labels) (N' := (["_law_one", "_law_labels_here", "_law_j", "_law_old"] : List Str)) (nt := 1) (cs := [3, 5, 7]) rfl rfl (by decide +kernel)) (pi_list (pv 3)) (fun _ _ _ _ => (pg_name (i := 0) (show List.Nodup (["_law_one", "_law_labels_here", "_law_j", "_law_old"] : List Str) by decide +kernel) rfl (Or.inl rfl))) (fun _ _ _ _ => pifs_nil) (fun _ _ _ _ => (pe_ix (show IxR _ (rIxL K) from ix_list) (pe_lst (pa_cons (pv 0) (pa_cons (pe_ix (show IxR _ (rIxL K) from ix_list) (pv 1) (pv 2) (fun _ _ => rfl)) pa_nil))) (pe_callTy call_int1 (by rfl) Z.z_int boot_int (pa_cons (pe_cmpR op_eq (pv 0) (pv 3) (nomark _)) pa_nil)) (fun _ _ => rfl))))))) pss_nil)))
      (pss_one (ps_ret (pv 3))))), ?_⟩)
  refine go_spD h (by rw [spD_len (n := 3) (by rintro ds ⟨c, d, e, rfl, _⟩; rfl) h]; decide) fun G ds hp rt => ?_
  obtain ⟨m, ps, as, rfl, hm, hpl, hal, hg⟩ := hp
  rw [resLb_enc] at rt
  refine go_seq (go_set (d := .lst (labD m id)) (EvO.ev (evo_listrange (n := m) (ev_var rfl).b (by omega))) ?_)
  ((try dsimp only); refine nx_go ?_)
  refine go_seq (go_for encP ps (fun k ss => ∃ v4 v5 v6 v7 : Sl, ss = [.d (.int m), .d (.lst (ps.map encP)), .d (.lst (as.map encA)), .d (.lst (labD m (lbF (linksF (ps.take k) as)))), v4, v5, v6, v7]) (ev_var rfl) ⟨.un, .un, .un, .un, rfl⟩ ?_ ?_)
  · rintro L' k p ss hL hk ⟨v4, v5, v6, v7, rfl⟩
    refine ⟨_, tg_tup rfl (tgs_cons tg_name (tgs_cons tg_name (tgs_cons tg_name tgs_nil))), fun N hN => ?_⟩
    have hp := hg.1 p (List.mem_of_getElem? hk)
    have et : ps.take (k + 1) = ps.take k ++ [p] := by rw [List.take_add_one, hk]; rfl
    have es := linksF_snoc (ps.take k) as p
    rw [← et] at es
    generalize hgl : linksF (ps.take k) as = ls at es
    generalize hgg : lbF ls = g
    refine go_if (b := linkP as p) (evt_and (evt_test (ev_gt (ev_var rfl).b ev_int.b)) fun _ => evt_test (ev_notInD (d := encA (p.1, p.2.1)) (Ev.b (ev_tup (evaf_cons (ev_var rfl) (evaf_cons (ev_var rfl) evaf_nil)) (small (by simp)))) (ev_var rfl).b rfl (D.nbs_map encA_nb as) (by show 1 ≤ 60; decide))) (fun hb => ?_) (fun hb => ?_)
    · rw [if_pos hb] at es
      refine go_seq (go_set (ev_ixL (ev_var rfl).l (ev_var rfl).b (at_lab g hp.1)) ?_)
      ((try dsimp only); refine nx_go ?_)
      refine go_set (d := .lst (labD m (lbS g (p.1, p.2.1)))) (EvO.ev (evo_lcM (List.range m) (fun t => encN (g t)) (fun t => encN (lbS g (p.1, p.2.1) t)) (ev_var rfl).l (gk_name (by decide)) (by decide) (by rw [sizeLine_eq, List.length_range]; omega) fun t ht => ⟨_, tg_name, ?_⟩)) (hN _ ⟨_, _, _, _, by rw [es, lbF_snoc, hgg]; rfl⟩)
      refine ev_ixL (ds := [encN (g t), encN (g p.2.1)]) (EvO.l (evo_lst (evaf_cons (ev_var rfl) (evaf_cons (ev_ixL (ev_var rfl).l (ev_var rfl).b (at_lab g hp.2.1)) evaf_nil)) (small (by simp)))) (ev_intB (ev_eqI (i := (g t : Nat)) (j := (g p.1 : Nat)) (ev_var rfl).b (ev_var rfl).b).b).b ?_
      rw [at_two]
      congr 1
      unfold lbS stepF
      by_cases c : g t = g p.1
      · rw [if_pos c, if_pos (by rw [c]; simp)]
      · rw [if_neg c, if_neg (by simp; omega)]
    · rw [if_neg (by rw [hb]; decide)] at es
      exact go_next (hN _ ⟨_, _, _, _, by rw [es, hgg]; rfl⟩)
  rintro ss ⟨v4, v5, v6, v7, rfl⟩
  rw [List.take_length]
  ((try dsimp only); refine nx_go ?_)
  exact go_ret (ev_var rfl) rt
def hL (ls : List Nat) (t : Nat) : Nat := ls.getD t 0
def dueD (ls : List Nat) : List D := (partsF (hL ls) (List.range ls.length)).map fun p => .lst (p.map encN)
def preDue (ds : List D) : Prop := ∃ ls : List Nat, ds = [.lst (ls.map encN)] ∧ ls.length ≤ 100
def resDue : List D → D
  | [.lst ls] => .lst (dueD (ls.map unN))
  | _ => .non
theorem resDue_enc (ls : List Nat) : resDue [.lst (ls.map encN)] = .lst (dueD ls) := by
  show D.lst (dueD ((ls.map encN).map unN)) = _
  rw [unN_map]
theorem at_hL {ls : List Nat} {i : Nat} (h : i < ls.length) : atI (ls.map encN) (i : Int) = some (encN (hL ls i)) := atI_nat (by rw [List.getElem?_map]; unfold hL; rw [List.getD_eq_getElem?_getD]; simp [h])
theorem encN_nb (n : Nat) : (encN n).nb = true := rfl
theorem ok_law_due (Z : Tx K mg f_joined f_parts_of f_case_of f_law_cell_at f_law_weight f_law_case f_law_labels f_law_due f_law_is_whole f_law_case_due f_law d_joined d_parts_of d_case_of d_law_cell_at d_law_weight d_law_case d_law_labels d_law_due d_law_is_whole d_law_case_due d_law) : FnOk P w K mg base CX0 1 f_law_due d_law_due ["_law_labels_here"] (SpD K preDue resDue) := by
  refine Z.F_law_due.ok sc_law_due (fun vs H Q E h => spD_len (n := 1) (by rintro ds ⟨c, rfl, _⟩; rfl) h) (fun cdv A outer s H vs Q E hr h => ⟨_, (pss_cons (ps_set (i := 1) sc_law_due.nd rfl (Or.inl rfl) (pe_lst pa_nil))
      (pss_cons (ps_for PassesOwn.never rfl (pi_range1 (by rfl) Z.z_range (pa_cons (pe_callB call_len_seq (by rfl) Z.z_len boot_len (pa_cons (pv 0) pa_nil)) pa_nil)) (pg_name (i := 2) sc_law_due.nd rfl (Or.inr rfl)) (pss_one (ps_if (pt_cmpR (show OpR _ _ (rInD K true) from op_notInD hr.units) (pe_ix (show IxR _ (rIxL K) from ix_list) (pv 0) (pv 2) (fun _ _ => rfl)) (pe_slice sl_list (pv 0) po_none (po_some (pv 2))) (by with_unfolding_all rfl)) (pss_one (ps_expr (pe_bm F.plainAttrs_list F.slot_list_append F.type_list_append mt_append (pv 1) (pa_cons (pe_lc rfl (LcOk.of (Nx := (["_law_labels_here", "_law_due_here", "_law_block"] : List Str)) (sc := defScope s_law_due) (N' := (["_law_one", "_law_labels_here", "_law_block"] : List Str)) (nt := 1) (cs := [0, 2]) rfl rfl (by decide +kernel)) (pi_range1 (by rfl) Z.z_range (pa_cons (pe_callB call_len_seq (by rfl) Z.z_len boot_len (pa_cons (pv 0) pa_nil)) pa_nil)) (fun _ _ _ _ => (pg_name (i := 0) (show List.Nodup (["_law_one", "_law_labels_here", "_law_block"] : List Str) by decide +kernel) rfl (Or.inl rfl))) (fun _ _ _ _ => (pifs_one (pt_cmpR op_eq (pe_ix (show IxR _ (rIxL K) from ix_list) (pv 1) (pv 0) (fun _ _ => rfl)) (pe_ix (show IxR _ (rIxL K) from ix_list) (pv 1) (pv 2) (fun _ _ => rfl)) (nomark _)))) (fun _ _ _ _ => (pv 0))) pa_nil)))) pss_nil)))
      (pss_one (ps_ret (pv 1))))), ?_⟩)
  refine go_spD h (by rw [spD_len (n := 1) (by rintro ds ⟨c, rfl, _⟩; rfl) h]; decide) fun G ds hp rt => ?_
  obtain ⟨ls, rfl, hl⟩ := hp
  rw [resDue_enc] at rt
  have ll : (ls.map encN).length = ls.length := List.length_map ..
  refine go_seq (go_setO (evo_lst evaf_nil (small (by decide))) fun p => ?_)
  ((try dsimp only); refine nx_go ?_)
  refine go_seq (go_range (n := ls.length) (fun k ss => ∃ v2 : Sl, ss = [.d (.lst (ls.map encN)), .o p ((heads (hL ls) (List.range k)).map fun y => .lst (((List.range ls.length).filter fun t => decide (hL ls t = hL ls y)).map encN)), v2]) (eva_cons (Ev.b (by rw [← ll]; exact ev_lenL (ev_var rfl).l)) eva_nil) ⟨by omega, by omega⟩ ⟨.un, rfl⟩ ?_ ?_ (fun _ _ _ h => h))
  · rintro k ss hk ⟨v2, rfl⟩ N hN
    have hk : k < ls.length := by omega
    have hmem : decide (encN (hL ls k) ∈ (ls.map encN).take k) = (heads (hL ls) (List.range k)).any fun y => decide (hL ls y = hL ls k) := by
      rw [any_heads, Bool.eq_iff_iff, decide_eq_true_eq, List.any_eq_true, ← List.map_take, List.mem_map]
      constructor
      · rintro ⟨y, hy, e⟩
        obtain ⟨j, hj⟩ := List.mem_iff_getElem?.mp hy
        have hjk : j < k := by
          have := (List.getElem?_eq_some_iff.mp hj).1
          rw [List.length_take] at this; omega
        rw [List.getElem?_take, if_pos hjk] at hj
        refine ⟨j, List.mem_range.mpr hjk, decide_eq_true ?_⟩
        have : hL ls j = y := by unfold hL; rw [List.getD_eq_getElem?_getD, hj]; rfl
        rw [this]; exact encN_inj _ _ e
      · rintro ⟨j, hj, e⟩
        have hjk := List.mem_range.mp hj
        refine ⟨hL ls j, ?_, by rw [of_decide_eq_true e]⟩
        refine List.mem_iff_getElem?.mpr ⟨j, ?_⟩
        rw [List.getElem?_take, if_pos hjk]
        unfold hL
        rw [List.getD_eq_getElem?_getD, List.getElem?_eq_getElem (by omega)]; rfl
    have hcut : cutD (ls.map encN) none (some (k : Int)) = (ls.map encN).take k := by rw [cutD_to _ (by omega)]; rfl
    have hsn : heads (hL ls) (List.range (k + 1)) = hdStep (hL ls) (heads (hL ls) (List.range k)) k := by rw [List.range_succ, heads_snoc]
    have hhl : (heads (hL ls) (List.range k)).length ≤ k := by
      have := partsF_len (f := hL ls) (xs := List.range k)
      unfold partsF at this
      simpa using this
    refine go_if (b := !decide (encN (hL ls k) ∈ (ls.map encN).take k)) (evt_test (by rw [← hcut]; exact ev_notInD (ev_ixL (ev_var rfl).l (ev_var rfl).b (at_hL hk)).b (EvO.l (evo_slL (ev_var rfl).l evp_no (evp_part (ev_var rfl).b))).b rfl (by rw [hcut, ← List.map_take]; exact D.nbs_map encN_nb _) (by show 0 ≤ 60; decide))) (fun hb => ?_) (fun hb => ?_)
    · have hb : ((heads (hL ls) (List.range k)).any fun y => decide (hL ls y = hL ls k)) = false := by rw [← hmem]; simpa using hb
      refine go_append (d := .lst (((List.range ls.length).filter fun t => decide (hL ls t = hL ls k)).map encN)) rfl (EvO.ev ?_) (by rw [List.length_map, sizeLine_eq]; omega) (hN _ ⟨.d (.int k), ?_⟩)
      · have ef : ((List.range ls.length).filter fun t => decide (hL ls t = hL ls k)) = (List.range ls.length).filter fun t => decide ((hL ls t : Int) = (hL ls k : Int)) := List.filter_congr fun t _ => by
          rw [Bool.eq_iff_iff, decide_eq_true_eq, decide_eq_true_eq]; omega
        rw [ef]
        refine evo_lcI (n := ((ls.length : Nat) : Int).toNat) (fun t => decide ((hL ls t : Int) = (hL ls k : Int))) encN (evi_range (n := ls.length) (eva_cons (Ev.b (by rw [← ll]; exact ev_lenL (ev_var rfl).l)) eva_nil) ⟨by omega, by omega⟩) (gk_name (by decide)) (by decide) (by rw [sizeLine_eq]; omega) fun t ht => ⟨_, tg_name, evt_test (ev_eqI (ev_ixL (ev_var rfl).l (ev_var rfl).b (at_hL (by omega))).b (ev_ixL (ev_var rfl).l (ev_var rfl).b (at_hL hk)).b), fun _ => ev_var rfl⟩
      · rw [hsn]
        unfold hdStep
        rw [if_neg (by rw [hb]; decide), List.map_append]
        rfl
    · have hb : ((heads (hL ls) (List.range k)).any fun y => decide (hL ls y = hL ls k)) = true := by rw [← hmem]; simpa using hb
      refine go_next (hN _ ⟨.d (.int k), ?_⟩)
      rw [hsn]
      unfold hdStep
      rw [if_pos hb]
      rfl
  rintro ss ⟨v2, rfl⟩
  refine nx_freeze (i := 1) rfl ?_
  ((try dsimp only); refine nx_go ?_)
  have e : ((heads (hL ls) (List.range ((ls.length : Nat) : Int).toNat)).map fun y => D.lst (((List.range ls.length).filter fun t => decide (hL ls t = hL ls y)).map encN)) = dueD ls := by
    unfold dueD partsF
    rw [List.map_map]; rfl
  rw [← e] at rt
  exact go_ret (ev_var rfl) rt
def preI (ds : List D) : Prop := ∃ c : Int, ds = [.int c]
theorem ok_law_is_whole (Z : Tx K mg f_joined f_parts_of f_case_of f_law_cell_at f_law_weight f_law_case f_law_labels f_law_due f_law_is_whole f_law_case_due f_law d_joined d_parts_of d_case_of d_law_cell_at d_law_weight d_law_case d_law_labels d_law_due d_law_is_whole d_law_case_due d_law) : FnOk P w K mg base CX0 1 f_law_is_whole d_law_is_whole ["_law_found"] (SpD K preI fun _ => .bl true) := by
  refine Z.F_law_is_whole.ok sc_law_is_whole (fun vs H Q E h => spD_len (n := 1) (by rintro ds ⟨c, rfl⟩; rfl) h) (fun cdv A outer s H vs Q E hr h => ⟨_, (pss_one (ps_ret (pe_and (pe_callB call_isi_int_int (by rfl) Z.z_isinstance boot_isinstance (pa_cons (pv 0) (pa_cons (pe_bltn (v := .ty "int") (by rfl) Z.z_int boot_int rfl) pa_nil))) (pe_one (pe_not (pe_callB call_isi_int_bool (by rfl) Z.z_isinstance boot_isinstance (pa_cons (pv 0) (pa_cons (pe_bltn (v := .ty "bool") (by rfl) Z.z_bool boot_bool rfl) pa_nil)))))))), ?_⟩)
  refine go_spD h (by rw [spD_len (n := 1) (by rintro ds ⟨c, rfl⟩; rfl) h]; decide) fun G ds hp rt => ?_
  obtain ⟨c, rfl⟩ := hp
  exact go_ret (ev_and (ev_isI (ev_var rfl).b) fun _ => ev_not (ev_isIB (ev_var rfl).b)) rt
theorem ok_law_case_due (Z : Tx K mg f_joined f_parts_of f_case_of f_law_cell_at f_law_weight f_law_case f_law_labels f_law_due f_law_is_whole f_law_case_due f_law d_joined d_parts_of d_case_of d_law_cell_at d_law_weight d_law_case d_law_labels d_law_due d_law_is_whole d_law_case_due d_law) : FnOk P w K mg base CX0 1 f_law_case_due d_law_case_due ["_law_part", "_law_pairs", "_law_aparts"] (SpD K preC resC) := by
  refine Z.F_law_case_due.ok sc_law_case_due (fun vs H Q E h => spD_len (n := 3) (by rintro ds ⟨c, d, e, rfl, _⟩; rfl) h) (fun cdv A outer s H vs Q E hr h => ⟨_, (pss_cons (ps_setLC (i := 3) sc_law_case_due.nd rfl (Or.inl rfl) rfl (LcOk.of (Nx := (["_law_part", "_law_pairs", "_law_aparts", "_law_some", "_law_few"] : List Str)) (sc := defScope s_law_case_due) (N' := (["_law_i", "_law_j", "_law_weight_here", "_law_part"] : List Str)) (nt := 3) (cs := [0]) rfl rfl (by decide +kernel)) (pi_list (pv 1)) (fun _ _ _ _ => (show PG _ _ (gTup K 3 _) from pg_tup rfl (pgs_cons (pg_name (i := 0) (show List.Nodup (["_law_i", "_law_j", "_law_weight_here", "_law_part"] : List Str) by decide +kernel) rfl (Or.inl rfl)) (pgs_cons (pg_name (i := 1) (show List.Nodup (["_law_i", "_law_j", "_law_weight_here", "_law_part"] : List Str) by decide +kernel) rfl (Or.inl rfl)) (pgs_cons (pg_name (i := 2) (show List.Nodup (["_law_i", "_law_j", "_law_weight_here", "_law_part"] : List Str) by decide +kernel) rfl (Or.inl rfl)) pgs_nil))))) (fun _ _ _ _ => (pifs_one (pw_and (pt_cmpR (show OpR _ _ (rInD K false) from op_inD hr.units) (pv 0) (pv 3) (by with_unfolding_all rfl)) (pw_and1 (pt_cmpR (show OpR _ _ (rInD K false) from op_inD hr.units) (pv 1) (pv 3) (by with_unfolding_all rfl)))).pt)) (fun _ _ _ _ => (pe_tup (pa_cons (show PE _ _ (tBM K "list" (rIndexI K) _ _) from pe_bm F.plainAttrs_list F.slot_list_index F.type_list_index (show MtR _ _ (rIndexI K) from mt_index) (pv 3) (pa_cons (pv 0) pa_nil)) (pa_cons (show PE _ _ (tBM K "list" (rIndexI K) _ _) from pe_bm F.plainAttrs_list F.slot_list_index F.type_list_index (show MtR _ _ (rIndexI K) from mt_index) (pv 3) (pa_cons (pv 1) pa_nil)) (pa_cons (pv 2) pa_nil))))))
      (pss_cons (ps_setLC (i := 4) sc_law_case_due.nd rfl (Or.inl rfl) rfl (LcOk.of (Nx := (["_law_part", "_law_pairs", "_law_aparts", "_law_some", "_law_few"] : List Str)) (sc := defScope s_law_case_due) (N' := (["_law_i", "_law_j", "_law_part"] : List Str)) (nt := 2) (cs := [0]) rfl rfl (by decide +kernel)) (pi_list (pv 2)) (fun _ _ _ _ => (show PG _ _ (gTup K 2 _) from pg_tup rfl (pgs_cons (pg_name (i := 0) (show List.Nodup (["_law_i", "_law_j", "_law_part"] : List Str) by decide +kernel) rfl (Or.inl rfl)) (pgs_cons (pg_name (i := 1) (show List.Nodup (["_law_i", "_law_j", "_law_part"] : List Str) by decide +kernel) rfl (Or.inl rfl)) pgs_nil)))) (fun _ _ _ _ => (pifs_one (pw_and (pt_cmpR (show OpR _ _ (rInD K false) from op_inD hr.units) (pv 0) (pv 2) (by with_unfolding_all rfl)) (pw_and1 (pt_cmpR (show OpR _ _ (rInD K false) from op_inD hr.units) (pv 1) (pv 2) (by with_unfolding_all rfl)))).pt)) (fun _ _ _ _ => (pe_tup (pa_cons (show PE _ _ (tBM K "list" (rIndexI K) _ _) from pe_bm F.plainAttrs_list F.slot_list_index F.type_list_index (show MtR _ _ (rIndexI K) from mt_index) (pv 2) (pa_cons (pv 0) pa_nil)) (pa_cons (show PE _ _ (tBM K "list" (rIndexI K) _ _) from pe_bm F.plainAttrs_list F.slot_list_index F.type_list_index (show MtR _ _ (rIndexI K) from mt_index) (pv 2) (pa_cons (pv 1) pa_nil)) pa_nil)))))
      (pss_one (ps_ret (pe_tup (pa_cons (pe_callB call_len_seq (by rfl) Z.z_len boot_len (pa_cons (pv 0) pa_nil)) (pa_cons (pv 3) (pa_cons (pv 4) pa_nil)))))))), ?_⟩)
  refine go_spD h (by rw [spD_len (n := 3) (by rintro ds ⟨c, d, e, rfl, _⟩; rfl) h]; decide) fun G ds hp rt => ?_
  obtain ⟨part, ps, as, rfl, hnd, hl, hpl, hal⟩ := hp
  rw [resC_enc] at rt
  let qs : List Int := part.map fun n : Nat => (n : Int)
  have eq : part.map encN = qs.map D.int := by show _ = (part.map _).map _; rw [List.map_map]; rfl
  have hmem : ∀ i : Nat, (encN i ∈ part.map encN) ↔ i ∈ part := fun i => by
    rw [List.mem_map]
    exact ⟨fun ⟨y, hy, e⟩ => encN_inj _ _ e ▸ hy, fun h => ⟨i, h, rfl⟩⟩
  have hmq : ∀ i : Nat, i ∈ part → (i : Int) ∈ qs := fun i h => List.mem_map.mpr ⟨i, h, rfl⟩
  have hix : ∀ i : Nat, qs.idxOf (i : Int) = part.idxOf i := fun i => by
    show (part.map fun n : Nat => (n : Int)).idxOf (i : Int) = _
    clear hl hnd rt eq hmem hmq
    induction part with
    | nil => rfl
    | cons y ys ih =>
      rw [List.map_cons, List.idxOf_cons, List.idxOf_cons]
      have : ((y : Int) == (i : Int)) = (y == i) := by rw [Bool.eq_iff_iff, beq_iff_eq, beq_iff_eq]; omega
      rw [this, ih]
  refine go_seq (go_setO (ds := (ps.filter fun p => decide (encN p.1 ∈ part.map encN) && decide (encN p.2.1 ∈ part.map encN)).map (idxP part)) (evo_lcX ps encP (fun p => decide (encN p.1 ∈ part.map encN) && decide (encN p.2.1 ∈ part.map encN)) (idxP part) (ev_var rfl).l (gk_tup (gks_cons (gk_name (by decide)) (gks_cons (gk_name (by decide)) (gks_cons (gk_name (by decide)) gks_nil)))) (by decide) (by rw [sizeLine_eq]; omega) fun q hq => ⟨_, tg_tup rfl (tgs_cons tg_name (tgs_cons tg_name (tgs_cons tg_name tgs_nil))),
      evt_and (evt_test (ev_inD (d := encN q.1) (ev_var rfl).b (ev_var rfl).b rfl (D.nbs_map encN_nb _) (by show 0 ≤ 60; decide))) fun _ => evt_test (ev_inD (d := encN q.2.1) (ev_var rfl).b (ev_var rfl).b rfl (D.nbs_map encN_nb _) (by show 0 ≤ 60; decide)), fun hb => by
        rw [Bool.and_eq_true, decide_eq_true_eq, decide_eq_true_eq, hmem, hmem] at hb
        unfold idxP
        rw [← hix, ← hix]
        exact ev_tup (evaf_cons (ev_index (ns := qs) (k := (q.1 : Nat)) (by rw [← eq]; exact (ev_var rfl).l) (ev_var rfl).b (hmq _ hb.1)) (evaf_cons (ev_index (ns := qs) (k := (q.2.1 : Nat)) (by rw [← eq]; exact (ev_var rfl).l) (ev_var rfl).b (hmq _ hb.2)) (evaf_cons (ev_var rfl) evaf_nil))) (small (by simp))⟩)
    fun p6 => nx_freeze (i := 3) rfl ?_)
  ((try dsimp only); refine nx_go ?_)
  refine go_seq (go_setO (ds := (as.filter fun a => decide (encN a.1 ∈ part.map encN) && decide (encN a.2 ∈ part.map encN)).map (idxA part)) (evo_lcX as encA (fun a => decide (encN a.1 ∈ part.map encN) && decide (encN a.2 ∈ part.map encN)) (idxA part) (ev_var rfl).l (gk_tup (gks_cons (gk_name (by decide)) (gks_cons (gk_name (by decide)) gks_nil))) (by decide) (by rw [sizeLine_eq]; omega) fun q hq => ⟨_, tg_tup rfl (tgs_cons tg_name (tgs_cons tg_name tgs_nil)),
      evt_and (evt_test (ev_inD (d := encN q.1) (ev_var rfl).b (ev_var rfl).b rfl (D.nbs_map encN_nb _) (by show 0 ≤ 60; decide))) fun _ => evt_test (ev_inD (d := encN q.2) (ev_var rfl).b (ev_var rfl).b rfl (D.nbs_map encN_nb _) (by show 0 ≤ 60; decide)), fun hb => by
        rw [Bool.and_eq_true, decide_eq_true_eq, decide_eq_true_eq, hmem, hmem] at hb
        unfold idxA
        rw [← hix, ← hix]
        exact ev_tup (evaf_cons (ev_index (ns := qs) (k := (q.1 : Nat)) (by rw [← eq]; exact (ev_var rfl).l) (ev_var rfl).b (hmq _ hb.1)) (evaf_cons (ev_index (ns := qs) (k := (q.2 : Nat)) (by rw [← eq]; exact (ev_var rfl).l) (ev_var rfl).b (hmq _ hb.2)) evaf_nil)) (small (by simp))⟩)
    fun p7 => nx_freeze (i := 4) rfl ?_)
  ((try dsimp only); refine nx_go ?_)
  have ll : ((part.map encN).length : Int) = part.length := by rw [List.length_map]
  have e1 : (ps.filter fun p => decide (encN p.1 ∈ part.map encN) && decide (encN p.2.1 ∈ part.map encN)) = ps.filter fun p => decide (p.1 ∈ part) && decide (p.2.1 ∈ part) := List.filter_congr fun p _ => by simp only [hmem]
  have e2 : (as.filter fun a => decide (encN a.1 ∈ part.map encN) && decide (encN a.2 ∈ part.map encN)) = as.filter fun a => decide (a.1 ∈ part) && decide (a.2 ∈ part) := List.filter_congr fun p _ => by simp only [hmem]
  refine go_ret (d := caseF part ps as) ?_ rt
  unfold caseF
  rw [← ll, ← e1, ← e2]
  exact ev_tup (evaf_cons (ev_lenL (ev_var rfl).l) (evaf_cons (ev_var rfl) (evaf_cons (ev_var rfl) evaf_nil))) (small (by simp))
def spLaw (K : PySem.W.Frag) : Sp := fun vs H Q _ => ∃ (a : Addr) (ns : List Int), vs = [.ref a] ∧ SqL K H a (ns.map V.int) ∧ ns.length ≤ 63 ∧ ∀ H', Q (.bl true) H'
theorem reps_ints {K : PySem.W.Frag} {H : Hp} : ∀ ns : List Int, Reps K H (ns.map D.int) (ns.map V.int)
  | [] => Reps.nil
  | n :: ns => Reps.cons Rep.int (reps_ints ns)
def encL (p : List Nat) : D := .lst (p.map encN)
theorem encL_nb (p : List Nat) : (encL p).nb = true := by unfold encL; rw [D.nb_lst]; exact D.nbs_map encN_nb p
theorem encL_dep (p : List Nat) : (encL p).dep ≤ 1 := by
  unfold encL; rw [D.dep_lst]; have := D.deps_map (enc := encN) (n := 0) (fun _ => Nat.le_refl _) p; omega
theorem due_parts {m : Nat} {ls : List Apt} (h : ∀ l ∈ ls, l.1 ∈ List.range m ∧ l.2 ∈ List.range m) : dueD ((List.range m).map (lbF ls)) = partsD (List.range m) ls := by
  unfold dueD partsD
  rw [List.length_map, List.length_range]
  rw [partsF_congr (g := ufF ls) fun a ha b hb => ?_]
  have e : ∀ t ∈ List.range m, hL ((List.range m).map (lbF ls)) t = lbF ls t := fun t ht => by
    unfold hL
    rw [List.getD_eq_getElem?_getD, List.getElem?_map, List.getElem?_range (List.mem_range.mp ht)]; rfl
  rw [e a ha, e b hb]
  exact lb_uf ls h a ha b hb
theorem part_ok {β : Type} [DecidableEq β] {m : Nat} {f : Nat → β} {p : List Nat} (h : p ∈ partsF f (List.range m)) : p.Nodup ∧ p.length ≤ m := by
  unfold partsF at h
  obtain ⟨y, _, rfl⟩ := List.mem_map.mp h
  refine ⟨List.Nodup.sublist List.filter_sublist List.nodup_range, ?_⟩
  have := List.length_filter_le (fun t => decide (f t = f y)) (List.range m)
  simpa using this
theorem idxP_nb (part : List Nat) (p : Pr) : (idxP part p).nb = true := rfl
theorem idxA_nb (part : List Nat) (a : Apt) : (idxA part a).nb = true := rfl
theorem encP_nb (p : Pr) : (encP p).nb = true := rfl
theorem caseF_nb (part : List Nat) (ps : List Pr) (as : List Apt) : (caseF part ps as).nb = true := by
  unfold caseF
  simp [D.nb, D.nbs, D.nbs_map (idxP_nb part), D.nbs_map (idxA_nb part)]
theorem caseF_dep (part : List Nat) (ps : List Pr) (as : List Apt) : (caseF part ps as).dep ≤ 60 := by
  unfold caseF
  have h1 := D.deps_map (enc := idxP part) (n := 1) (fun _ => Nat.le_refl _) (ps.filter fun p => decide (p.1 ∈ part) && decide (p.2.1 ∈ part))
  have h2 := D.deps_map (enc := idxA part) (n := 1) (fun _ => Nat.le_refl _) (as.filter fun a => decide (a.1 ∈ part) && decide (a.2 ∈ part))
  simp only [D.dep, D.deps]
  omega
theorem ok_law (Z : Tx K mg f_joined f_parts_of f_case_of f_law_cell_at f_law_weight f_law_case f_law_labels f_law_due f_law_is_whole f_law_case_due f_law d_joined d_parts_of d_case_of d_law_cell_at d_law_weight d_law_case d_law_labels d_law_due d_law_is_whole d_law_case_due d_law) : FnOk P w K mg base CX0 21 f_law d_law ["_law_script"] (spLaw K) := by
  have G_law_cell_at := ok_law_cell_at (P := P) (w := w) (base := base) Z
  have G_law_case := ok_law_case (P := P) (w := w) (base := base) Z
  have G_law_labels := ok_law_labels (P := P) (w := w) (base := base) Z
  have G_law_due := ok_law_due (P := P) (w := w) (base := base) Z
  have G_law_is_whole := ok_law_is_whole (P := P) (w := w) (base := base) Z
  have G_law_case_due := ok_law_case_due (P := P) (w := w) (base := base) Z
  have G_parts_of := ok_parts_of (P := P) (w := w) (base := base) Z
  have G_case_of := ok_case_of (P := P) (w := w) (base := base) Z
  refine Z.F_law.ok sc_law (fun vs H Q E h => by obtain ⟨a, ns, rfl, _⟩ := h; rfl) (fun cdv A outer s H vs Q E hr h => ⟨_, (pss_cons (ps_set (i := 1) sc_law.nd rfl (Or.inl rfl) (pe_op op_mod (pe_call G_law_cell_at (hr.mono (by decide)) (by rfl) Z.M_law_cell_at Z.F_law_cell_at.kp Z.B_law_cell_at .nil pass0 (pa_cons (pv 0) (pa_cons pe_int pa_nil))) pe_int))
      (pss_cons (ps_asg (pe_call G_law_case (hr.mono (by decide)) (by rfl) Z.M_law_case Z.F_law_case.kp Z.B_law_case .nil pass0 (pa_cons (pv 0) (pa_cons (pv 1) (pa_cons pe_int pa_nil)))) (pg_tup rfl (pgs_cons (pg_name (i := 2) sc_law.nd rfl (Or.inl rfl)) (pgs_cons (pg_name (i := 3) sc_law.nd rfl (Or.inl rfl)) pgs_nil))))
      (pss_cons (ps_set (i := 4) sc_law.nd rfl (Or.inl rfl) (pe_tup (pa_cons (pe_callTy call_list_of (by rfl) Z.z_list boot_list (pa_cons (pv 2) pa_nil)) (pa_cons (pe_callTy call_list_of (by rfl) Z.z_list boot_list (pa_cons (pv 3) pa_nil)) pa_nil))))
      (pss_cons (ps_set (i := 5) sc_law.nd rfl (Or.inl rfl) (pe_call G_parts_of (hr.mono (by decide)) (by rfl) Z.M_parts_of Z.F_parts_of.kp Z.B_parts_of .nil pass0 (pa_cons (pv 1) (pa_cons (pv 2) (pa_cons (pv 3) pa_nil)))))
      (pss_cons (ps_set (i := 6) sc_law.nd rfl (Or.inl rfl) (pe_call G_law_due (hr.mono (by decide)) (by rfl) Z.M_law_due Z.F_law_due.kp Z.B_law_due .nil pass0 (pa_cons (pe_call G_law_labels (hr.mono (by decide)) (by rfl) Z.M_law_labels Z.F_law_labels.kp Z.B_law_labels .nil pass0 (pa_cons (pv 1) (pa_cons (pv 2) (pa_cons (pv 3) pa_nil)))) pa_nil)))
      (pss_cons (ps_if (pw_or (pt_not (pt_val (pe_callB (show CallR _ _ (fun xs H Q => ∃ p ys, xs = [.ref p, .ty "list"] ∧ SqL K H p ys ∧ Q (.bl true) H) from call_isi_list_list) (by rfl) Z.z_isinstance boot_isinstance (pa_cons (pv 5) (pa_cons (pe_bltn (v := .ty "list") (by rfl) Z.z_list boot_list rfl) pa_nil))))) (pw_or1 (pt_cmpR (show OpR _ _ (rNeD K) from op_neD hr.units) (pv 5) (pv 6) (nomark _)))).pt (pss_one (ps_ret pe_bl)) pss_nil)
      (pss_cons (ps_for PassesOwn.never rfl (pi_list (pv 6)) (pg_name (i := 7) sc_law.nd rfl (Or.inl rfl)) (pss_cons (ps_set (i := 8) sc_law.nd rfl (Or.inl rfl) (pe_call G_case_of (hr.mono (by decide)) (by rfl) Z.M_case_of Z.F_case_of.kp Z.B_case_of .nil pass0 (pa_cons (pe_callTy call_list_of (by rfl) Z.z_list boot_list (pa_cons (pv 7) pa_nil)) (pa_cons (pv 2) (pa_cons (pv 3) pa_nil)))))
      (pss_cons (ps_if (pw_or (pt_not (pt_val (pe_callB (show CallR _ _ (fun xs H Q => ∃ p ys, xs = [.ref p, .ty "tuple"] ∧ SqT K H p ys ∧ Q (.bl true) H) from call_isi_tup_tuple) (by rfl) Z.z_isinstance boot_isinstance (pa_cons (pv 8) (pa_cons (pe_bltn (v := .ty "tuple") (by rfl) Z.z_tuple boot_tuple rfl) pa_nil))))) (pw_or1 (pt_cmpR (show OpR _ _ (rNeD K) from op_neD hr.units) (pv 8) (pe_call G_law_case_due (hr.mono (by decide)) (by rfl) Z.M_law_case_due Z.F_law_case_due.kp Z.B_law_case_due .nil pass0 (pa_cons (pv 7) (pa_cons (pv 2) (pa_cons (pv 3) pa_nil)))) (nomark _)))).pt (pss_one (ps_ret pe_bl)) pss_nil)
      (pss_one (ps_if (pw_or (pt_not (pt_val (pe_call G_law_is_whole (hr.mono (by decide)) (by rfl) Z.M_law_is_whole Z.F_law_is_whole.kp Z.B_law_is_whole .nil pass0 (pa_cons (pe_ix (show IxR _ (rIxT K) from ix_tup) (pv 8) pe_int (fun _ _ => rfl)) pa_nil)))) (pw_or (pt_not (pt_val (pe_callB (show CallR _ _ (fun xs H Q => ∃ p ys, xs = [.ref p, .ty "list"] ∧ SqL K H p ys ∧ Q (.bl true) H) from call_isi_list_list) (by rfl) Z.z_isinstance boot_isinstance (pa_cons (pe_ix (show IxR _ (rIxT K) from ix_tup) (pv 8) pe_int (fun _ _ => rfl)) (pa_cons (pe_bltn (v := .ty "list") (by rfl) Z.z_list boot_list rfl) pa_nil))))) (pw_or1 (pt_not (pt_val (pe_callB (show CallR _ _ (fun xs H Q => ∃ p ys, xs = [.ref p, .ty "list"] ∧ SqL K H p ys ∧ Q (.bl true) H) from call_isi_list_list) (by rfl) Z.z_isinstance boot_isinstance (pa_cons (pe_ix (show IxR _ (rIxT K) from ix_tup) (pv 8) pe_int (fun _ _ => rfl)) (pa_cons (pe_bltn (v := .ty "list") (by rfl) Z.z_list boot_list rfl) pa_nil)))))))).pt (pss_one (ps_ret pe_bl)) pss_nil)))))
      (pss_cons (ps_expr (pe_bm F.plainAttrs_list F.slot_list_append F.type_list_append mt_append (pv 5) (pa_cons (pe_lst pa_nil) pa_nil)))
      (pss_one (ps_ret (pe_and (pe_cmpR (show OpR _ _ (rEqD K) from op_eqD hr.units) (pe_tup (pa_cons (pv 2) (pa_cons (pv 3) pa_nil))) (pv 4) (nomark _)) (pe_one (pe_cmpR (show OpR _ _ (rEqD K) from op_eqD hr.units) (pe_call G_parts_of (hr.mono (by decide)) (by rfl) Z.M_parts_of Z.F_parts_of.kp Z.B_parts_of .nil pass0 (pa_cons (pv 1) (pa_cons (pv 2) (pa_cons (pv 3) pa_nil)))) (pv 6) (nomark _)))))))))))))), ?_⟩)
  obtain ⟨a, ns, rfl, sq, hl, hQ⟩ := h
  have r : Reps K H [.lst (ns.map .int)] [.ref a] := Reps.cons (Rep.lst sq (reps_ints ns)) Reps.nil
  have rt : RtD K H H Q (.bl true) := fun v F H' e r => by rw [r.of_bl]; exact hQ H'
  refine (?_ : Go K H H H _ (slots 9 [.lst (ns.map .int)]) _) H H _ (sat_start (Same.refl H) r (by simp))
  obtain ⟨i0, ei0⟩ := cell_int ns 0
  have hm0 := Int.emod_nonneg i0 (show (11 : Int) ≠ 0 by decide)
  have hm1 := Int.emod_lt_of_pos i0 (show (0 : Int) < 11 by decide)
  refine go_seq (go_set (ev_mod (i := i0) (Ev.b (by rw [← ei0]; exact ev_call (pre := preCell) (res := resCell) (evaf_cons (ev_var rfl) (evaf_cons ev_int evaf_nil)) ⟨ns, 0, rfl, by omega⟩)) ev_int.b (by decide)) ?_)
  obtain ⟨m, em⟩ : ∃ m : Nat, i0 % 11 = (m : Int) := ⟨(i0 % 11).toNat, by omega⟩
  rw [em] at hm0 hm1 ⊢
  ((try dsimp only); refine nx_go ?_)
  refine go_seq (go_asgRD (pre := preCase) (R := relCase) (ds := [.lst (ns.map .int), .int m, .int 1]) (evaf_cons (ev_var rfl) (evaf_cons (ev_var rfl) (evaf_cons ev_int evaf_nil))) ⟨ns, m, 1, rfl, hm0, by omega, by decide⟩ fun r hR => ?_)
  obtain ⟨ps, as, rfl, hpl, hal, hg⟩ := hR ns m 1 rfl
  have hg : GoodC m ps as := hg
  refine ⟨_, tg_tup rfl (tgs_cons tg_name (tgs_cons tg_name tgs_nil)), ?_⟩
  ((try dsimp only); refine nx_go ?_)
  have pP : preP [.int m, .lst (ps.map encP), .lst (as.map encA)] := ⟨m, ps, as, rfl, by omega, hpl, hal, hg⟩
  refine go_seq (go_set (ev_tup (evaf_cons (EvO.ev (evo_list (ev_var rfl).l)) (evaf_cons (EvO.ev (evo_list (ev_var rfl).l)) evaf_nil)) (small (by simp))) ?_)
  ((try dsimp only); refine nx_go ?_)
  have hli := links_in hg
  have eP := resP_enc m ps as
  have eL := resLb_enc m ps as
  generalize hps : linksF ps as = lks at eP eL hli
  have eD : resDue [.lst (labD m (lbF lks))] = .lst (partsD (List.range m) lks) := by
    have e0 : labD m (lbF lks) = ((List.range m).map (lbF lks)).map encN := by unfold labD; rw [List.map_map]; rfl
    rw [e0, resDue_enc, due_parts hli]
  have pD : preDue [.lst (labD m (lbF lks))] := ⟨(List.range m).map (lbF lks), by unfold labD; rw [List.map_map]; rfl, by simp; omega⟩
  have hpp : partsD (List.range m) lks = (partsF (ufF lks) (List.range m)).map encL := rfl
  rw [hpp] at eP eD
  have hpo : ∀ p ∈ partsF (ufF lks) (List.range m), p.Nodup ∧ p.length ≤ m := fun p hp => part_ok hp
  have hpn : (partsF (ufF lks) (List.range m)).length ≤ m := by have := partsF_len (f := ufF lks) (xs := List.range m); simpa using this
  generalize partsF (ufF lks) (List.range m) = pts at eP eD hpo hpn
  have nbP : (D.lst (pts.map encL)).nb = true := by rw [D.nb_lst]; exact D.nbs_map encL_nb pts
  have dpP : (D.lst (pts.map encL)).dep ≤ 60 := by
    rw [D.dep_lst]; have := D.deps_map (enc := encL) (n := 1) encL_dep pts; omega
  refine go_seq (go_setO (ds := pts.map encL) (by rw [← eP]; exact evo_call (pre := preP) (res := resP) (evaf_cons (ev_var rfl) (evaf_cons (ev_var rfl) (evaf_cons (ev_var rfl) evaf_nil))) pP) fun pf => ?_)
  ((try dsimp only); refine nx_go ?_)
  refine go_seq (go_set (d := .lst (pts.map encL)) (by
    rw [← eD]
    exact ev_call (pre := preDue) (res := resDue) (evaf_cons (by rw [← eL]; exact ev_call (pre := preP) (res := resLb) (evaf_cons (ev_var rfl) (evaf_cons (ev_var rfl) (evaf_cons (ev_var rfl) evaf_nil))) pP) evaf_nil) pD) ?_)
  ((try dsimp only); refine nx_go ?_)
  refine go_seq (go_if (b := (!true || !decide (D.lst (pts.map encL) = .lst (pts.map encL)))) (evt_or (evt_not (evt_b (ev_isL (evl_own rfl)))) fun _ => evt_test (ev_neD (evl_own rfl).b (ev_var rfl).b nbP nbP dpP)) (fun hb => by simp at hb) (fun _ => ?_))
  refine go_next ?_
  ((try dsimp only); refine nx_go ?_)
  refine go_seq (go_for encL pts (fun k ss => ∃ v7 v8 : Sl, ss = [.d (.lst (ns.map .int)), .d (.int m), .d (.lst (ps.map encP)), .d (.lst (as.map encA)), .d (.tup [.lst (ps.map encP), .lst (as.map encA)]), .o pf (pts.map encL), .d (.lst (pts.map encL)), v7, v8]) (ev_var rfl) ⟨.un, .un, rfl⟩ ?_ ?_)
  · rintro L' k part ss hL hk ⟨v7, v8, rfl⟩
    refine ⟨_, tg_name, fun N hN => ?_⟩
    obtain ⟨hnd, hpl2⟩ := hpo part (List.mem_of_getElem? hk)
    have eC := resC_enc part ps as
    have pC : preC [.lst (part.map encN), .lst (ps.map encP), .lst (as.map encA)] := ⟨part, ps, as, rfl, hnd, by omega, hpl, hal⟩
    refine go_seq (go_set (d := caseF part ps as) (by rw [← eC]; exact ev_call (pre := preC) (res := resC) (evaf_cons (EvO.ev (evo_list (Ev.l (ds := part.map encN) (ev_var rfl)))) (evaf_cons (ev_var rfl) (evaf_cons (ev_var rfl) evaf_nil))) pC) ?_)
    ((try dsimp only); refine nx_go ?_)
    refine go_seq (go_if (b := (!true || !decide (caseF part ps as = caseF part ps as))) (evt_or (evt_not (evt_b (by unfold caseF; exact ev_isT (ev_var rfl).b))) fun _ => evt_test (ev_neD (ev_var rfl).b (Ev.b (by rw [← eC]; exact ev_call (pre := preC) (res := resC) (evaf_cons (ev_var rfl) (evaf_cons (ev_var rfl) (evaf_cons (ev_var rfl) evaf_nil))) pC)) (caseF_nb _ _ _) (caseF_nb _ _ _) (caseF_dep _ _ _))) (fun hb => by simp at hb) (fun _ => ?_))
    refine go_next ?_
    ((try dsimp only); refine nx_go ?_)
    unfold caseF
    refine go_if (b := (!true || (!true || !true))) (evt_or (evt_not (evt_b (ev_call (pre := preI) (res := fun _ => .bl true) (evaf_cons (ev_ixT (d := .int part.length) (ev_var rfl) ev_int.b rfl) evaf_nil) ⟨_, rfl⟩))) fun _ => evt_or (evt_not (evt_b (ev_isL (Ev.l (ev_ixT (ev_var rfl) ev_int.b rfl))))) fun _ => evt_not (evt_b (ev_isL (Ev.l (ev_ixT (ev_var rfl) ev_int.b rfl))))) (fun hb => by simp at hb) (fun _ => go_next (hN _ ⟨_, _, rfl⟩))
  rintro ss ⟨v7, v8, rfl⟩
  ((try dsimp only); refine nx_go ?_)
  refine go_seq (go_append (d := .lst []) rfl (EvO.ev (evo_lst evaf_nil (small (by decide)))) (by rw [List.length_map, sizeLine_eq]; omega) ?_)
  ((try dsimp only); refine nx_go ?_)
  have nbH : (D.tup [.lst (ps.map encP), .lst (as.map encA)]).nb = true := by simp [D.nb, D.nbs, D.nbs_map encP_nb, D.nbs_map encA_nb]
  have dpH : (D.tup [.lst (ps.map encP), .lst (as.map encA)]).dep ≤ 60 := by
    have h1 := D.deps_map (enc := encP) (n := 1) (fun _ => Nat.le_refl _) ps
    have h2 := D.deps_map (enc := encA) (n := 1) (fun _ => Nat.le_refl _) as
    simp only [D.dep, D.deps]
    omega
  refine go_ret (d := .bl (decide (D.tup [.lst (ps.map encP), .lst (as.map encA)] = .tup [.lst (ps.map encP), .lst (as.map encA)]) && decide (D.lst (pts.map encL) = .lst (pts.map encL)))) (ev_and (ev_eqD (Ev.b (ev_tup (evaf_cons (ev_var rfl) (evaf_cons (ev_var rfl) evaf_nil)) (small (by simp)))) (ev_var rfl).b nbH nbH dpH) fun _ => ev_eqD (EvL.b (EvO.l (by rw [← eP]; exact evo_call (pre := preP) (res := resP) (evaf_cons (ev_var rfl) (evaf_cons (ev_var rfl) (evaf_cons (ev_var rfl) evaf_nil))) pP))) (ev_var rfl).b nbP nbP dpP) ?_
  simp only [decide_true, Bool.and_self]
  exact rt
end
theorem all_mk {l : PySem.W.OpenLaw} {w : World} {K : PySem.W.Frag} {h : Heap} {mg : Str → Option Value} {fa g0 g1 g2 g3 g4 g5 g6 g7 g8 g9 g10 : Addr} (X : K.In h) (G : h.Ns mainGlobals mg) (hfa : mg "law" = some (.ref fa))
    {od0 an0 od1 an1 od2 an2 od3 an3 od4 an4 od5 an5 od6 an6 od7 an7 od8 an8 od9 an9 od10 an10 : Option Addr} {sl0 sl1 sl2 sl3 sl4 sl5 sl6 sl7 sl8 sl9 sl10 : Array (Option Value)} {oc0 kV0 dc0 pm0 cd0 ct0 oc1 kV1 dc1 pm1 cd1 ct1 oc2 kV2 dc2 pm2 cd2 ct2 oc3 kV3 dc3 pm3 cd3 ct3 oc4 kV4 dc4 pm4 cd4 ct4 oc5 kV5 dc5 pm5 cd5 ct5 oc6 kV6 dc6 pm6 cd6 ct6 oc7 kV7 dc7 pm7 cd7 ct7 oc8 kV8 dc8 pm8 cd8 ct8 oc9 kV9 dc9 pm9 cd9 ct9 oc10 kV10 dc10 pm10 cd10 ct10 : Value}
    (a0 : PySem.W.nsIn K mainGlobals "joined" = some (some (.ref g0))) (l0 : K.lookup g0 = some ⟨oc0, od0, .func (PySem.W.fnOf "joined" "joined" (defArgs s_joined) (defBody s_joined) (defScope s_joined) .none kV0 dc0 pm0 an0 cd0 ct0), sl0⟩) (c0 : PySem.W.codeIn K cd0 "joined" = true) (k0 : PySem.W.keepIn K (.ref g0) = true)
    (a1 : PySem.W.nsIn K mainGlobals "parts_of" = some (some (.ref g1))) (l1 : K.lookup g1 = some ⟨oc1, od1, .func (PySem.W.fnOf "parts_of" "parts_of" (defArgs s_parts_of) (defBody s_parts_of) (defScope s_parts_of) .none kV1 dc1 pm1 an1 cd1 ct1), sl1⟩) (c1 : PySem.W.codeIn K cd1 "parts_of" = true) (k1 : PySem.W.keepIn K (.ref g1) = true)
    (a2 : PySem.W.nsIn K mainGlobals "case_of" = some (some (.ref g2))) (l2 : K.lookup g2 = some ⟨oc2, od2, .func (PySem.W.fnOf "case_of" "case_of" (defArgs s_case_of) (defBody s_case_of) (defScope s_case_of) .none kV2 dc2 pm2 an2 cd2 ct2), sl2⟩) (c2 : PySem.W.codeIn K cd2 "case_of" = true) (k2 : PySem.W.keepIn K (.ref g2) = true)
    (a3 : PySem.W.nsIn K mainGlobals "_law_cell_at" = some (some (.ref g3))) (l3 : K.lookup g3 = some ⟨oc3, od3, .func (PySem.W.fnOf "_law_cell_at" "_law_cell_at" (defArgs s_law_cell_at) (defBody s_law_cell_at) (defScope s_law_cell_at) .none kV3 dc3 pm3 an3 cd3 ct3), sl3⟩) (c3 : PySem.W.codeIn K cd3 "_law_cell_at" = true) (k3 : PySem.W.keepIn K (.ref g3) = true)
    (a4 : PySem.W.nsIn K mainGlobals "_law_weight" = some (some (.ref g4))) (l4 : K.lookup g4 = some ⟨oc4, od4, .func (PySem.W.fnOf "_law_weight" "_law_weight" (defArgs s_law_weight) (defBody s_law_weight) (defScope s_law_weight) .none kV4 dc4 pm4 an4 cd4 ct4), sl4⟩) (c4 : PySem.W.codeIn K cd4 "_law_weight" = true) (k4 : PySem.W.keepIn K (.ref g4) = true)
    (a5 : PySem.W.nsIn K mainGlobals "_law_case" = some (some (.ref g5))) (l5 : K.lookup g5 = some ⟨oc5, od5, .func (PySem.W.fnOf "_law_case" "_law_case" (defArgs s_law_case) (defBody s_law_case) (defScope s_law_case) .none kV5 dc5 pm5 an5 cd5 ct5), sl5⟩) (c5 : PySem.W.codeIn K cd5 "_law_case" = true) (k5 : PySem.W.keepIn K (.ref g5) = true)
    (a6 : PySem.W.nsIn K mainGlobals "_law_labels" = some (some (.ref g6))) (l6 : K.lookup g6 = some ⟨oc6, od6, .func (PySem.W.fnOf "_law_labels" "_law_labels" (defArgs s_law_labels) (defBody s_law_labels) (defScope s_law_labels) .none kV6 dc6 pm6 an6 cd6 ct6), sl6⟩) (c6 : PySem.W.codeIn K cd6 "_law_labels" = true) (k6 : PySem.W.keepIn K (.ref g6) = true)
    (a7 : PySem.W.nsIn K mainGlobals "_law_due" = some (some (.ref g7))) (l7 : K.lookup g7 = some ⟨oc7, od7, .func (PySem.W.fnOf "_law_due" "_law_due" (defArgs s_law_due) (defBody s_law_due) (defScope s_law_due) .none kV7 dc7 pm7 an7 cd7 ct7), sl7⟩) (c7 : PySem.W.codeIn K cd7 "_law_due" = true) (k7 : PySem.W.keepIn K (.ref g7) = true)
    (a8 : PySem.W.nsIn K mainGlobals "_law_is_whole" = some (some (.ref g8))) (l8 : K.lookup g8 = some ⟨oc8, od8, .func (PySem.W.fnOf "_law_is_whole" "_law_is_whole" (defArgs s_law_is_whole) (defBody s_law_is_whole) (defScope s_law_is_whole) .none kV8 dc8 pm8 an8 cd8 ct8), sl8⟩) (c8 : PySem.W.codeIn K cd8 "_law_is_whole" = true) (k8 : PySem.W.keepIn K (.ref g8) = true)
    (a9 : PySem.W.nsIn K mainGlobals "_law_case_due" = some (some (.ref g9))) (l9 : K.lookup g9 = some ⟨oc9, od9, .func (PySem.W.fnOf "_law_case_due" "_law_case_due" (defArgs s_law_case_due) (defBody s_law_case_due) (defScope s_law_case_due) .none kV9 dc9 pm9 an9 cd9 ct9), sl9⟩) (c9 : PySem.W.codeIn K cd9 "_law_case_due" = true) (k9 : PySem.W.keepIn K (.ref g9) = true)
    (a10 : PySem.W.nsIn K mainGlobals "law" = some (some (.ref g10))) (l10 : K.lookup g10 = some ⟨oc10, od10, .func (PySem.W.fnOf "law" "law" (defArgs s_law) (defBody s_law) (defScope s_law) .none kV10 dc10 pm10 an10 cd10 ct10), sl10⟩) (c10 : PySem.W.codeIn K cd10 "law" = true) (k10 : PySem.W.keepIn K (.ref g10) = true)
    (y_bool : PySem.W.nsIn K mainGlobals "bool" = some none)
    (y_enumerate : PySem.W.nsIn K mainGlobals "enumerate" = some none)
    (y_int : PySem.W.nsIn K mainGlobals "int" = some none)
    (y_isinstance : PySem.W.nsIn K mainGlobals "isinstance" = some none)
    (y_len : PySem.W.nsIn K mainGlobals "len" = some none)
    (y_list : PySem.W.nsIn K mainGlobals "list" = some none)
    (y_max : PySem.W.nsIn K mainGlobals "max" = some none)
    (y_min : PySem.W.nsIn K mainGlobals "min" = some none)
    (y_range : PySem.W.nsIn K mainGlobals "range" = some none)
    (y_tuple : PySem.W.nsIn K mainGlobals "tuple" = some none) :
    ∃ fd : FuncData, (∀ (s : Shared) (v : Value), BindsTo s fd ⟨[v], []⟩ [("_law_script", v)]) ∧ ∀ base : Heap, K.In base → base.Ns mainGlobals mg → FnOk l.prog w K mg base CX0 21 fa fd ["_law_script"] (spLaw K) := by
  have e := hfa.symm.trans (PySem.W.mg_of X G a10)
  cases e
  have F0 := fun_mk (st := s_joined) l0 c0 k0
  have b0 := F0.binds (ps := ["things", "links"]) fun _ _ _ _ _ _ us hl => match us, hl with | [_, _], _ => rfl
  have F1 := fun_mk (st := s_parts_of) l1 c1 k1
  have b1 := F1.binds (ps := ["many", "pairs", "aparts"]) fun _ _ _ _ _ _ us hl => match us, hl with | [_, _, _], _ => rfl
  have F2 := fun_mk (st := s_case_of) l2 c2 k2
  have b2 := F2.binds (ps := ["part", "pairs", "aparts"]) fun _ _ _ _ _ _ us hl => match us, hl with | [_, _, _], _ => rfl
  have F3 := fun_mk (st := s_law_cell_at) l3 c3 k3
  have b3 := F3.binds (ps := ["_law_script", "_law_k"]) fun _ _ _ _ _ _ us hl => match us, hl with | [_, _], _ => rfl
  have F4 := fun_mk (st := s_law_weight) l4 c4 k4
  have b4 := F4.binds (ps := ["_law_cell"]) fun _ _ _ _ _ _ us hl => match us, hl with | [_], _ => rfl
  have F5 := fun_mk (st := s_law_case) l5 c5 k5
  have b5 := F5.binds (ps := ["_law_script", "_law_many", "_law_at"]) fun _ _ _ _ _ _ us hl => match us, hl with | [_, _, _], _ => rfl
  have F6 := fun_mk (st := s_law_labels) l6 c6 k6
  have b6 := F6.binds (ps := ["_law_many", "_law_pairs", "_law_aparts"]) fun _ _ _ _ _ _ us hl => match us, hl with | [_, _, _], _ => rfl
  have F7 := fun_mk (st := s_law_due) l7 c7 k7
  have b7 := F7.binds (ps := ["_law_labels_here"]) fun _ _ _ _ _ _ us hl => match us, hl with | [_], _ => rfl
  have F8 := fun_mk (st := s_law_is_whole) l8 c8 k8
  have b8 := F8.binds (ps := ["_law_found"]) fun _ _ _ _ _ _ us hl => match us, hl with | [_], _ => rfl
  have F9 := fun_mk (st := s_law_case_due) l9 c9 k9
  have b9 := F9.binds (ps := ["_law_part", "_law_pairs", "_law_aparts"]) fun _ _ _ _ _ _ us hl => match us, hl with | [_, _, _], _ => rfl
  have F10 := fun_mk (st := s_law) l10 c10 k10
  have b10 := F10.binds (ps := ["_law_script"]) fun _ _ _ _ _ _ us hl => match us, hl with | [_], _ => rfl
  exact ⟨_, fun s v => .of_eq rfl, fun base _ _ => ok_law ⟨F0, b0, PySem.W.mg_of X G a0, F1, b1, PySem.W.mg_of X G a1, F2, b2, PySem.W.mg_of X G a2, F3, b3, PySem.W.mg_of X G a3, F4, b4, PySem.W.mg_of X G a4, F5, b5, PySem.W.mg_of X G a5, F6, b6, PySem.W.mg_of X G a6, F7, b7, PySem.W.mg_of X G a7, F8, b8, PySem.W.mg_of X G a8, F9, b9, PySem.W.mg_of X G a9, F10, b10, PySem.W.mg_of X G a10, PySem.W.mg_none_of X G y_bool, PySem.W.mg_none_of X G y_enumerate, PySem.W.mg_none_of X G y_int, PySem.W.mg_none_of X G y_isinstance, PySem.W.mg_none_of X G y_len, PySem.W.mg_none_of X G y_list, PySem.W.mg_none_of X G y_max, PySem.W.mg_none_of X G y_min, PySem.W.mg_none_of X G y_range, PySem.W.mg_none_of X G y_tuple⟩⟩
theorem walk {l : PySem.W.OpenLaw} {q : Program} {loose : List Str} {XP : (Str → Option Value) → Heap → Prop} {YP : World → Heap → Prop} {d : DefRec} {K : Params → PySem.W.Frag} (hn : l.most = some 63) (hdf : d.params.defaults = [])
    (hY : ∀ (w : World) (h : Heap), YP w h → (K w.params).In h)
    (F : ∀ (w : World) (mg : Str → Option Value) (fa : Addr) (h : Heap), (K w.params).In h → h.Ns mainGlobals mg → mg d.name = some (.ref fa) →
      ∃ fd : FuncData, (∀ (s : Shared) (u : Value), BindsTo s fd ⟨[u], []⟩ [("_law_script", u)]) ∧ ∀ base : Heap, (K w.params).In base → base.Ns mainGlobals mg → FnOk l.prog w (K w.params) mg base CX0 21 fa fd ["_law_script"] (spLaw (K w.params))) :
    PySem.W.WalkO q loose XP YP l.row.toRowW d [] (fun f vs => PySem.call f vs) :=
  L2.walk_of (n := 63) (k := 21) (x := "_law_script") (CX := fun _ => CX0) (sp := fun w => spLaw (K w.params)) hn (by decide) hdf ⟨rfl, by decide, by decide⟩ hY F (fun _ _ a ns hl _ hS => ⟨a, ns, rfl, hS, hl, fun _ => rfl⟩) fun _ _ _ _ _ z => z
end My
open PySem PySem.W PyProof.Rows
set_option maxRecDepth 100000 in
set_option maxHeartbeats 0 in
theorem PySem.Challenge.cw_folk_k31_parts_of_a_case_holds : PySem.Challenge.rw_folk_k31_parts_of_a_case.Holds := by
  w_on; o_law; k_head; (case hw => w_witness2)
  k_fill
  refine My.walk (l := PySem.Challenge.rw_folk_k31_parts_of_a_case) rfl rfl (fun w h Y => PySem.W.kIn_of Y) ?F
  case F =>
    intro w mg fa h KX G hmg
    refine' My.all_mk KX G hmg ?a0 ?l0 ?c0 ?k0 ?a1 ?l1 ?c1 ?k1 ?a2 ?l2 ?c2 ?k2 ?a3 ?l3 ?c3 ?k3 ?a4 ?l4 ?c4 ?k4 ?a5 ?l5 ?c5 ?k5 ?a6 ?l6 ?c6 ?k6 ?a7 ?l7 ?c7 ?k7 ?a8 ?l8 ?c8 ?k8 ?a9 ?l9 ?c9 ?k9 ?a10 ?l10 ?c10 ?k10 ?y_bool ?y_enumerate ?y_int ?y_isinstance ?y_len ?y_list ?y_max ?y_min ?y_range ?y_tuple
    (case a0 => k_is)
    (case l0 => k_is)
    (case c0 => k_is)
    (case k0 => k_is)
    (case a1 => k_is)
    (case l1 => k_is)
    (case c1 => k_is)
    (case k1 => k_is)
    (case a2 => k_is)
    (case l2 => k_is)
    (case c2 => k_is)
    (case k2 => k_is)
    (case a3 => k_is)
    (case l3 => k_is)
    (case c3 => k_is)
    (case k3 => k_is)
    (case a4 => k_is)
    (case l4 => k_is)
    (case c4 => k_is)
    (case k4 => k_is)
    (case a5 => k_is)
    (case l5 => k_is)
    (case c5 => k_is)
    (case k5 => k_is)
    (case a6 => k_is)
    (case l6 => k_is)
    (case c6 => k_is)
    (case k6 => k_is)
    (case a7 => k_is)
    (case l7 => k_is)
    (case c7 => k_is)
    (case k7 => k_is)
    (case a8 => k_is)
    (case l8 => k_is)
    (case c8 => k_is)
    (case k8 => k_is)
    (case a9 => k_is)
    (case l9 => k_is)
    (case c9 => k_is)
    (case k9 => k_is)
    (case a10 => k_is)
    (case l10 => k_is)
    (case c10 => k_is)
    (case k10 => k_is)
    (case y_bool => k_is)
    (case y_enumerate => k_is)
    (case y_int => k_is)
    (case y_isinstance => k_is)
    (case y_len => k_is)
    (case y_list => k_is)
    (case y_max => k_is)
    (case y_min => k_is)
    (case y_range => k_is)
    (case y_tuple => k_is)
